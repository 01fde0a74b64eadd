import Derived.Test.YtpmdjopojcgpeaaGreatDoorH5q
/-
  (*Store).lay of a new blob. (Written by gen_h6.py.)
-/
namespace Go.Proofs.YtpmdjopojcgpeaaGreatDoor
open Go.RowKit Go.Maps Go.ChangeMaps

/-- a device that was asked for what it has not -/
def asked (s : Dst) (e : Int) : Dst := notd (setl s s.log) 1 e
/-- a device that was given a blob -/
def given (s : Dst) (key x : List Nat) : Dst := notd (setl (layS s key x) s.log) 2 0
set_option maxRecDepth 100000 in
set_option maxHeartbeats 6400000 in
theorem hlay_any {w : World} {F : Nat → Prop} {sb g bk : Nat} {most : Int} {ord : Value} {mb mq N : Nat} {D : DataW Value} {V : List Nat → Value} {E : Nat → Prop} {ks : List (List Nat)} {bl : List Nat → Option (List Nat)} {cnt : Nat} (h : Cs w F sb g bk most ord mb mq N D V E ks bl cnt) {FD : Nat → Prop} {sd : Dst} {ND : Nat} {lg : Value} (hd : Dev w FD g sd ND lg) (hND : ND ≤ 1073741000) (hdj : ∀ i, FD i → ¬ F i) (hdl : ∀ i, FD i → i < w.heap.size) {key : List Nat} (hk : IsH key) (habs : bl key = none) (hdabs : sd.bl key = none) {sa : Option Addr} {m sc : Nat} {x : List Nat} (hr : refu (asked sd 81) 2 key m = 0) (hv : Vo FD w (.slice sa m sc) x) (hm : m ≤ 1024) :
    Calls Tryz.prog 46 #[.pointer (some ⟨sb, 0, none⟩), .agg (bv key).toArray, .slice sa m sc] w fun e w' => e = .returned (.int .i64 0) ∧ ∃ FD', Dev w' FD' g (given (asked sd 81) key x) (ND + 12) lg ∧ Turn FD w w' ∧ (∀ i, FD' i → FD i ∨ w.heap.size ≤ i) := by
  obtain ⟨W, eW⟩ : ∃ W, W = w.alloc (.cells (bv key).toArray 38) := ⟨_, rfl⟩
  have b0 : Below w.heap.size w W := by rw [eW]; exact (Below.refl _ _).alloc (Nat.le_refl _) _
  have hkb : W.heap[w.heap.size]? = some (.cells (bv key).toArray 38 (0, 0)) := by rw [eW]; exact heap_alloc_new _ _
  have HW : Hid (∀ u, Below W.heap.size W u → Stb u sb g bk most ord mb mq ∧ Bl u E mb N D V bl cnt ∧ u.heap[w.heap.size]? = some (.cells (bv key).toArray 38 (0, 0)) ∧ Dev u FD g sd ND lg ∧ Vo FD u (.slice sa m sc) x ∧ Below w.heap.size w u) := fun u b2 => by
    have b := ch b0 b2
    exact ⟨h.st.keep b, (h.keep b).bl, (b2.block _ (by rw [eW]; simp)).trans hkb, hd.keep b, hv.keep b, b⟩
  have HK : Hid (IsH key ∧ ND ≤ 1073741000 ∧ bl key = none ∧ sd.bl key = none ∧ refu (asked sd 81) 2 key m = 0 ∧ m ≤ 1024 ∧ ¬ FD sb ∧ (∀ i, FD i → i < w.heap.size)) := ⟨hk, hND, habs, hdabs, hr, hm, fun q => hdj _ q h.fs.1, hdl⟩
  have HO : Hid (∀ u, Below W.heap.size W u → Calls Tryz.prog 47 #[.pointer (some ⟨sb, 2, none⟩), .agg (bv key).toArray, .slice sa m sc] u fun e w' => e = .returned (.bool false) ∧ Below u.heap.size u w') := fun u hu => by
    have := hasOther_any (HW.out u hu).1 (HW.out u hu).2.1 HK.out.1 (HW.out u hu).2.2.2.2.1.vb
    rw [HK.out.2.2.1] at this
    exact this
  have HSB : Hid (sb < w.heap.size) := (Array.getElem?_eq_some_iff.1 h.st.blk).1
  clear h hd hdj hdl hk habs hdabs hr hv hm b0 hkb hND
  go_enter Tryz.func46, Tryz.ntmps46
  go_wp2_with fail
  rw [← eW]
  clear eW
  refine wp_region_held_drew (S := fun u => Below W.heap.size W u) (by kernel_rfl) (by exact (Below.refl _ _).drew) ?_
  intro hS
  change wpAnyH _ _ _ _ _ 6 _ _ _
  refine wpAnyH_take (i := 0) (v := (.pointer (some ⟨sb, 0, none⟩))) (by simp only [List.getElem?_toArray, List.getElem?_cons_zero]; rfl) (by kernel_rfl) (by kernel_rfl) (by kernel_rfl) (by exact fun _ _ _ h => h) (y_move (by kernel_rfl) _ rfl _ rfl) hS ?_
  try simp only [Act.put, List.setIfInBounds_toArray, List.set_cons_zero, List.set_cons_succ]
  refine wpAnyH_take (i := 1) (v := (.pointer (some ⟨sb, 0, none⟩))) (by simp only [List.getElem?_toArray, List.getElem?_cons_zero, List.getElem?_cons_succ]; rfl) (by kernel_rfl) (by kernel_rfl) (by kernel_rfl) (by exact fun _ _ _ h => h) (y_nil (by kernel_rfl) _ rfl _ rfl) hS ?_
  try simp only [Act.put, List.setIfInBounds_toArray, List.set_cons_zero, List.set_cons_succ]
  refine wpAnyH_take (i := 2) (v := (.pointer (some ⟨sb, 0 + 2, none⟩))) (by simp only [List.getElem?_toArray, List.getElem?_cons_zero, List.getElem?_cons_succ]; rfl) (by kernel_rfl) (by kernel_rfl) (by kernel_rfl) (by exact fun _ _ _ h => h) (y_f_Sto2 (by kernel_rfl) _ rfl _ _ rfl) hS ?_
  try simp only [Act.put, List.setIfInBounds_toArray, List.set_cons_zero, List.set_cons_succ]
  refine wpAnyH_take (i := 3) (v := (.agg (bv key).toArray)) (by simp only [List.getElem?_toArray, List.getElem?_cons_zero, List.getElem?_cons_succ]; rfl) (by kernel_rfl) (by kernel_rfl) (by kernel_rfl) (by exact fun _ _ _ h => h) (y_s_Hash (by kernel_rfl) _ rfl _ _ rfl key HK.out.1.1 (fun u hs => blk_rng (HW.out u hs).2.2.1)) hS ?_
  try simp only [Act.put, List.setIfInBounds_toArray, List.set_cons_zero, List.set_cons_succ]
  refine wpAnyH_take (i := 4) (v := (.slice sa m sc)) (by simp only [List.getElem?_toArray, List.getElem?_cons_zero, List.getElem?_cons_succ]; rfl) (by kernel_rfl) (by kernel_rfl) (by kernel_rfl) (by exact fun _ _ _ h => h) (y_move (by kernel_rfl) _ rfl _ rfl) hS ?_
  try simp only [Act.put, List.setIfInBounds_toArray, List.set_cons_zero, List.set_cons_succ]
  refine wpAnyH_ready (rs := [5]) (by kernel_rfl) (by simp) ?_
  refine AllReadyH.cons (by simp only [List.getElem?_toArray, List.getElem?_cons_zero, List.getElem?_cons_succ]; rfl) (fun K hK => ?_) AllReadyH.nil
  go_simp
  refine (HO.out _ hS).mono ?_
  rintro _ u2 ⟨rfl, hb⟩
  replace hS := hS.trans (hb.mono hS.size)
  clear hb
  refine hK.out _ _ hS (fun hS => ?_)
  clear hK K
  try simp only [Act.put, List.setIfInBounds_toArray, List.set_cons_zero, List.set_cons_succ]
  refine wpAnyH_done (by kernel_rfl) ?_ _
  have HU : Hid (Stb u2 sb g bk most ord mb mq ∧ u2.heap[w.heap.size]? = some (.cells (bv key).toArray 38 (0, 0)) ∧ Dev u2 FD g sd ND lg ∧ Vo FD u2 (.slice sa m sc) x ∧ Below w.heap.size w u2) := ⟨(HW.out _ hS).1, (HW.out _ hS).2.2.1, (HW.out _ hS).2.2.2.1, (HW.out _ hS).2.2.2.2.1, (HW.out _ hS).2.2.2.2.2⟩
  clear hS HW HO
  go_wp2_with fail
  refine wp_region_held_drew (S := fun u => Stb u sb g bk most ord mb mq ∧ u.heap[w.heap.size]? = some (.cells (bv key).toArray 38 (0, 0))) (by kernel_rfl) (by exact ⟨⟨HU.out.1.blk⟩, HU.out.2.1⟩) ?_
  intro hS
  change wpAnyH _ _ _ _ _ 11 _ _ _
  refine wpAnyH_take (i := 0) (v := (.pointer (some ⟨sb, 0, none⟩))) (by simp only [List.getElem?_toArray, List.getElem?_cons_zero]; rfl) (by kernel_rfl) (by kernel_rfl) (by kernel_rfl) (by exact fun _ _ _ h => h) (y_move (by kernel_rfl) _ rfl _ rfl) hS ?_
  try simp only [Act.put, List.setIfInBounds_toArray, List.set_cons_zero, List.set_cons_succ]
  refine wpAnyH_take (i := 1) (v := (.pointer (some ⟨sb, 0, none⟩))) (by simp only [List.getElem?_toArray, List.getElem?_cons_zero, List.getElem?_cons_succ]; rfl) (by kernel_rfl) (by kernel_rfl) (by kernel_rfl) (by exact fun _ _ _ h => h) (y_nil (by kernel_rfl) _ rfl _ rfl) hS ?_
  try simp only [Act.put, List.setIfInBounds_toArray, List.set_cons_zero, List.set_cons_succ]
  refine wpAnyH_take (i := 2) (v := (.pointer (some ⟨sb, 0, none⟩))) (by simp only [List.getElem?_toArray, List.getElem?_cons_zero, List.getElem?_cons_succ]; rfl) (by kernel_rfl) (by kernel_rfl) (by kernel_rfl) (by exact fun _ _ _ h => h) (y_f_Sto0 (by kernel_rfl) _ rfl _ _ rfl) hS ?_
  try simp only [Act.put, List.setIfInBounds_toArray, List.set_cons_zero, List.set_cons_succ]
  refine wpAnyH_take (i := 3) (v := (.pointer (some ⟨g, 0, none⟩))) (by simp only [List.getElem?_toArray, List.getElem?_cons_zero, List.getElem?_cons_succ]; rfl) (by kernel_rfl) (by kernel_rfl) (by kernel_rfl) (by exact fun _ _ _ h => h) (y_l_dev (by kernel_rfl) _ rfl _ _ rfl _ (fun u hs => hs.1.at_.1)) hS ?_
  try simp only [Act.put, List.setIfInBounds_toArray, List.set_cons_zero, List.set_cons_succ]
  refine wpAnyH_take (i := 4) (v := (.agg (bv key).toArray)) (by simp only [List.getElem?_toArray, List.getElem?_cons_zero, List.getElem?_cons_succ]; rfl) (by kernel_rfl) (by kernel_rfl) (by kernel_rfl) (by exact fun _ _ _ h => h) (y_s_Hash (by kernel_rfl) _ rfl _ _ rfl key HK.out.1.1 (fun u hs => blk_rng hs.2)) hS ?_
  try simp only [Act.put, List.setIfInBounds_toArray, List.set_cons_zero, List.set_cons_succ]
  refine wpAnyH_ready (rs := [5]) (by kernel_rfl) (by simp) ?_
  refine AllReadyH.cons (by simp only [List.getElem?_toArray, List.getElem?_cons_zero, List.getElem?_cons_succ]; rfl) (fun K hK => ?_) AllReadyH.nil
  have bD : Below u2.heap.size u2 u2.drew := (Below.refl _ _).drew
  go_simp
  refine (dev_get_no (HU.out.2.2.1.keep bD) (by have := HK.out.2.1; omega) HK.out.1 HK.out.2.2.2.1).mono ?_
  rintro _ u3 ⟨tb, rfl, FD3, lg3, hD3, rfl, ht3, hf3, ho3⟩
  have hS3 := (⟨hS.1.turn ht3 HK.out.2.2.2.2.2.2.1, ht3.at_new hS.2 (fun q => by have := HK.out.2.2.2.2.2.2.2 _ q; omega)⟩ : Stb u3 sb g bk most ord mb mq ∧ u3.heap[w.heap.size]? = some (.cells (bv key).toArray 38 (0, 0)))
  have hsz : w.heap.size ≤ u2.drew.heap.size := HU.out.2.2.2.2.size
  have HV : Hid (Stb u3 sb g bk most ord mb mq ∧ u3.heap[w.heap.size]? = some (.cells (bv key).toArray 38 (0, 0)) ∧ Dev u3 FD3 g (asked sd 81) (ND + 6) lg3 ∧ (∀ i, FD3 i → FD i ∨ w.heap.size < i) ∧ Vo FD u3 (.slice sa m sc) x ∧ Turn FD w u3 ∧ w.heap.size < u2.drew.heap.size) :=
    ⟨hS3.1, hS3.2, hD3, fun i q => by
      rcases (hf3 i q).1 with q | q
      · exact Or.inl q
      · exact Or.inr (Nat.lt_of_lt_of_le (Array.getElem?_eq_some_iff.1 hS.2).1 q), (HU.out.2.2.2.1.keep bD).turn ht3 (fun i q _ => q), ((Turn.of_below (F := FD) HU.out.2.2.2.2).trans (Turn.of_below (F := FD) bD) (fun _ q => Or.inl q)).trans ht3 (fun _ q => Or.inl q), (Array.getElem?_eq_some_iff.1 hS.2).1⟩
  obtain ⟨ta, tc, et⟩ := own_slice ho3
  subst et
  clear hD3 ht3 hf3 ho3 hsz
  refine hK.out _ _ hS3 (fun hS => ?_)
  clear hK K
  try simp only [Act.put, List.setIfInBounds_toArray, List.set_cons_zero, List.set_cons_succ]
  refine wpAnyH_take (i := 6) (v := (.tuple #[.slice ta 0 tc, .int .i64 81])) (by simp only [List.getElem?_toArray, List.getElem?_cons_zero, List.getElem?_cons_succ]; rfl) (by kernel_rfl) (by kernel_rfl) (by kernel_rfl) (by exact fun _ _ _ h => h) (y_move (by kernel_rfl) _ rfl _ rfl) hS ?_
  try simp only [Act.put, List.setIfInBounds_toArray, List.set_cons_zero, List.set_cons_succ]
  refine wpAnyH_take (i := 7) (v := (.slice ta 0 tc)) (by simp only [List.getElem?_toArray, List.getElem?_cons_zero, List.getElem?_cons_succ]; rfl) (by kernel_rfl) (by kernel_rfl) (by kernel_rfl) (by exact fun _ _ _ h => h) (y_ext (by kernel_rfl) _ _ rfl _ _ rfl rfl) hS ?_
  try simp only [Act.put, List.setIfInBounds_toArray, List.set_cons_zero, List.set_cons_succ]
  refine wpAnyH_take (i := 8) (v := (.int .i64 81)) (by simp only [List.getElem?_toArray, List.getElem?_cons_zero, List.getElem?_cons_succ]; rfl) (by kernel_rfl) (by kernel_rfl) (by kernel_rfl) (by exact fun _ _ _ h => h) (y_ext (by kernel_rfl) _ _ rfl _ _ rfl rfl) hS ?_
  try simp only [Act.put, List.setIfInBounds_toArray, List.set_cons_zero, List.set_cons_succ]
  refine wpAnyH_take (i := 9) (v := (.slice ta 0 tc)) (by simp only [List.getElem?_toArray, List.getElem?_cons_zero, List.getElem?_cons_succ]; rfl) (by kernel_rfl) (by kernel_rfl) (by kernel_rfl) (by exact fun _ _ _ h => h) (y_assign (by kernel_rfl) _ rfl _ rfl) hS ?_
  try simp only [Act.put, List.setIfInBounds_toArray, List.set_cons_zero, List.set_cons_succ]
  refine wpAnyH_take (i := 10) (v := (.int .i64 81)) (by simp only [List.getElem?_toArray, List.getElem?_cons_zero, List.getElem?_cons_succ]; rfl) (by kernel_rfl) (by kernel_rfl) (by kernel_rfl) (by exact fun _ _ _ h => h) (y_assign (by kernel_rfl) _ rfl _ rfl) hS ?_
  try simp only [Act.put, List.setIfInBounds_toArray, List.set_cons_zero, List.set_cons_succ]
  refine wpAnyH_done (by kernel_rfl) ?_ _
  clear hS HU
  go_wp2_with fail
  refine wp_region_held_drew (S := fun u => Stb u sb g bk most ord mb mq ∧ u.heap[w.heap.size]? = some (.cells (bv key).toArray 38 (0, 0))) (by kernel_rfl) (by exact ⟨⟨HV.out.1.blk⟩, HV.out.2.1⟩) ?_
  intro hS
  change wpAnyH _ _ _ _ _ 8 _ _ _
  refine wpAnyH_take (i := 0) (v := (.pointer (some ⟨sb, 0, none⟩))) (by simp only [List.getElem?_toArray, List.getElem?_cons_zero]; rfl) (by kernel_rfl) (by kernel_rfl) (by kernel_rfl) (by exact fun _ _ _ h => h) (y_move (by kernel_rfl) _ rfl _ rfl) hS ?_
  try simp only [Act.put, List.setIfInBounds_toArray, List.set_cons_zero, List.set_cons_succ]
  refine wpAnyH_take (i := 1) (v := (.pointer (some ⟨sb, 0, none⟩))) (by simp only [List.getElem?_toArray, List.getElem?_cons_zero, List.getElem?_cons_succ]; rfl) (by kernel_rfl) (by kernel_rfl) (by kernel_rfl) (by exact fun _ _ _ h => h) (y_nil (by kernel_rfl) _ rfl _ rfl) hS ?_
  try simp only [Act.put, List.setIfInBounds_toArray, List.set_cons_zero, List.set_cons_succ]
  refine wpAnyH_take (i := 2) (v := (.pointer (some ⟨sb, 0, none⟩))) (by simp only [List.getElem?_toArray, List.getElem?_cons_zero, List.getElem?_cons_succ]; rfl) (by kernel_rfl) (by kernel_rfl) (by kernel_rfl) (by exact fun _ _ _ h => h) (y_f_Sto0 (by kernel_rfl) _ rfl _ _ rfl) hS ?_
  try simp only [Act.put, List.setIfInBounds_toArray, List.set_cons_zero, List.set_cons_succ]
  refine wpAnyH_take (i := 3) (v := (.pointer (some ⟨g, 0, none⟩))) (by simp only [List.getElem?_toArray, List.getElem?_cons_zero, List.getElem?_cons_succ]; rfl) (by kernel_rfl) (by kernel_rfl) (by kernel_rfl) (by exact fun _ _ _ h => h) (y_l_dev (by kernel_rfl) _ rfl _ _ rfl _ (fun u hs => hs.1.at_.1)) hS ?_
  try simp only [Act.put, List.setIfInBounds_toArray, List.set_cons_zero, List.set_cons_succ]
  refine wpAnyH_take (i := 4) (v := (.agg (bv key).toArray)) (by simp only [List.getElem?_toArray, List.getElem?_cons_zero, List.getElem?_cons_succ]; rfl) (by kernel_rfl) (by kernel_rfl) (by kernel_rfl) (by exact fun _ _ _ h => h) (y_s_Hash (by kernel_rfl) _ rfl _ _ rfl key HK.out.1.1 (fun u hs => blk_rng hs.2)) hS ?_
  try simp only [Act.put, List.setIfInBounds_toArray, List.set_cons_zero, List.set_cons_succ]
  refine wpAnyH_take (i := 5) (v := (.slice sa m sc)) (by simp only [List.getElem?_toArray, List.getElem?_cons_zero, List.getElem?_cons_succ]; rfl) (by kernel_rfl) (by kernel_rfl) (by kernel_rfl) (by exact fun _ _ _ h => h) (y_move (by kernel_rfl) _ rfl _ rfl) hS ?_
  try simp only [Act.put, List.setIfInBounds_toArray, List.set_cons_zero, List.set_cons_succ]
  refine wpAnyH_ready (rs := [6]) (by kernel_rfl) (by simp) ?_
  refine AllReadyH.cons (by simp only [List.getElem?_toArray, List.getElem?_cons_zero, List.getElem?_cons_succ]; rfl) (fun K hK => ?_) AllReadyH.nil
  have bD : Below u3.heap.size u3 u3.drew := (Below.refl _ _).drew
  go_simp
  have hVo := HV.out.2.2.2.2.1.keep bD
  refine (dev_put (HV.out.2.2.1.keep bD) (by have := HK.out.2.1; omega) HK.out.1 hVo.vb HK.out.2.2.2.2.2.1 HK.out.2.2.2.2.1).mono ?_
  rintro _ u4 ⟨rfl, FD4, hD4, ht4, hf4⟩
  have hS4 := (⟨hS.1.turn ht4 (fun q => by
      rcases HV.out.2.2.2.1 _ q with q | q
      · exact HK.out.2.2.2.2.2.2.1 q
      · have := HSB.out; omega), ht4.at_new hS.2 (fun q => by
      rcases HV.out.2.2.2.1 _ q with q | q
      · have := HK.out.2.2.2.2.2.2.2 _ q; omega
      · omega)⟩ : Stb u4 sb g bk most ord mb mq ∧ u4.heap[w.heap.size]? = some (.cells (bv key).toArray 38 (0, 0)))
  have HFIN : Hid (∃ FD', Dev u4 FD' g (given (asked sd 81) key x) (ND + 12) lg3 ∧ Turn FD w u4 ∧ (∀ i, FD' i → FD i ∨ w.heap.size ≤ i)) := by
    refine ⟨FD4, hD4, (HV.out.2.2.2.2.2.1.trans (Turn.of_below (F := FD) bD) (fun _ q => Or.inl q)).trans ht4 (fun i q => ?_), fun i q => ?_⟩
    · rcases HV.out.2.2.2.1 i q with q | q
      · exact Or.inl q
      · exact Or.inr (Nat.le_of_lt q)
    · rcases hf4 i q with q | q
      · rcases HV.out.2.2.2.1 i q with q | q
        · exact Or.inl q
        · exact Or.inr (Nat.le_of_lt q)
      · exact Or.inr (Nat.le_trans HV.out.2.2.2.2.2.1.size q)
  clear hD4 ht4 hf4 hVo
  refine hK.out _ _ hS4 (fun hS => ?_)
  clear hK K
  try simp only [Act.put, List.setIfInBounds_toArray, List.set_cons_zero, List.set_cons_succ]
  refine wpAnyH_take (i := 7) (v := (.int .i64 0)) (by simp only [List.getElem?_toArray, List.getElem?_cons_zero, List.getElem?_cons_succ]; rfl) (by kernel_rfl) (by kernel_rfl) (by kernel_rfl) (by exact fun _ _ _ h => h) (y_assign (by kernel_rfl) _ rfl _ rfl) hS ?_
  try simp only [Act.put, List.setIfInBounds_toArray, List.set_cons_zero, List.set_cons_succ]
  refine wpAnyH_done (by kernel_rfl) ?_ _
  clear hS HV
  go_wp2_with fail
  go_ret
  exact ⟨rfl, HFIN.out⟩
end Go.Proofs.YtpmdjopojcgpeaaGreatDoor

/-
  A store with its device and its book; (*Store).Put. (Written by gen_h7.py.)
-/
namespace Go.Proofs.YtpmdjopojcgpeaaGreatDoor
open Go.RowKit Go.Maps Go.ChangeMaps

theorem Cs.clip {w : World} {F : Nat → Prop} {sb g bk : Nat} {most : Int} {ord : Value} {mb mq N : Nat} {D : DataW Value} {V : List Nat → Value} {E : Nat → Prop} {ks : List (List Nat)} {bl : List Nat → Option (List Nat)} {cnt : Nat} (h : Cs w F sb g bk most ord mb mq N D V E ks bl cnt) : Cs w (fun i => F i ∧ i < w.heap.size) sb g bk most ord mb mq N D V (fun i => E i ∧ i < w.heap.size) ks bl cnt := by
  obtain ⟨c0, hc0⟩ := h.bad
  exact { h with
    bl := ⟨h.bl.mh, h.bl.has, fun k hk => ⟨(h.bl.dat k hk).own, fun b hb => ⟨(h.bl.dat k hk).foot b hb, ((h.bl.dat k hk).own.lt b hb).2⟩, (h.bl.dat k hk).ok⟩, h.bl.size⟩
    fs := ⟨⟨h.fs.1, (Array.getElem?_eq_some_iff.1 h.st.blk).1⟩, ⟨h.fs.2.1, h.bl.mh.map.lt⟩, ⟨h.fs.2.2, (Array.getElem?_eq_some_iff.1 hc0).1⟩⟩
    fo := fun b hb => ⟨h.fo b hb, (h.od.lt b hb).2⟩
    fe := fun i q => ⟨h.fe i q.1, q.2⟩ }
theorem Cs.mono {w : World} {F F' : Nat → Prop} {sb g bk : Nat} {most : Int} {ord : Value} {mb mq N : Nat} {D : DataW Value} {V : List Nat → Value} {E : Nat → Prop} {ks : List (List Nat)} {bl : List Nat → Option (List Nat)} {cnt : Nat} (h : Cs w F sb g bk most ord mb mq N D V E ks bl cnt) (hF : ∀ i, F i → F' i) : Cs w F' sb g bk most ord mb mq N D V E ks bl cnt :=
  { h with
    fs := ⟨hF _ h.fs.1, hF _ h.fs.2.1, hF _ h.fs.2.2⟩
    fo := fun b hb => hF b (h.fo b hb)
    fe := fun i q => hF i (h.fe i q) }
/-- A STORE, ITS DEVICE AND ITS BOOK, apart from one another. -/
structure Sy (w : World) (sb g bk bits : Nat) (most : Int) (mb mq N ND NB : Nat) (ks : List (List Nat)) (bl : List Nat → Option (List Nat)) (cnt : Nat) (sd : Dst) (lg : Value) (F FD FB : Nat → Prop) (ord : Value) (D : DataW Value) (V : List Nat → Value) (E : Nat → Prop) : Prop where
  cs : Cs w F sb g bk most ord mb mq N D V E ks bl cnt
  dv : Dev w FD g sd ND lg
  bk : Bk w bk bits NB FB
  gr : Dg.Ground w
  d1 : ∀ i, F i → ¬ FD i
  d2 : ∀ i, F i → ¬ FB i
  d3 : ∀ i, FD i → ¬ FB i
  lf : ∀ i, F i → 3 < i ∧ i < w.heap.size
  ld : ∀ i, FD i → 3 < i ∧ i < w.heap.size
theorem Sy.keep {w w' : World} {sb g bk bits : Nat} {most : Int} {mb mq N ND NB : Nat} {ks : List (List Nat)} {bl : List Nat → Option (List Nat)} {cnt : Nat} {sd : Dst} {lg : Value} {F FD FB : Nat → Prop} {ord : Value} {D : DataW Value} {V : List Nat → Value} {E : Nat → Prop} (h : Sy w sb g bk bits most mb mq N ND NB ks bl cnt sd lg F FD FB ord D V E) (k : Below w.heap.size w w') : Sy w' sb g bk bits most mb mq N ND NB ks bl cnt sd lg F FD FB ord D V E :=
  ⟨h.cs.keep k, h.dv.keep k, h.bk.keep k, h.gr.below k, h.d1, h.d2, h.d3, fun i q => ⟨(h.lf i q).1, Nat.lt_of_lt_of_le (h.lf i q).2 k.size⟩, fun i q => ⟨(h.ld i q).1, Nat.lt_of_lt_of_le (h.ld i q).2 k.size⟩⟩
/-- a step elsewhere -/
theorem Sy.frame {w w' : World} {sb g bk bits : Nat} {most : Int} {mb mq N ND NB : Nat} {ks : List (List Nat)} {bl : List Nat → Option (List Nat)} {cnt : Nat} {sd : Dst} {lg : Value} {F FD FB : Nat → Prop} {ord : Value} {D : DataW Value} {V : List Nat → Value} {E : Nat → Prop} {G : Nat → Prop} (h : Sy w sb g bk bits most mb mq N ND NB ks bl cnt sd lg F FD FB ord D V E) (t : Turn G w w') (hg : ∀ i, G i → i < w.heap.size → 3 < i ∧ ¬ F i ∧ ¬ FD i ∧ ¬ FB i) : Sy w' sb g bk bits most mb mq N ND NB ks bl cnt sd lg F FD FB ord D V E := by
  have g1 : ∀ i, F i → ¬ G i := fun i q z => (hg i z (h.lf i q).2).2.1 q
  have g2 : ∀ i, FD i → ¬ G i := fun i q z => (hg i z (h.ld i q).2).2.2.1 q
  have g3 : ∀ i, FB i → ¬ G i := fun i q z => (hg i z (h.bk.lim i q).2).2.2.2 q
  refine ⟨h.cs.turn t (fun i q _ => g1 i q), h.dv.frame t g2, h.bk.turn t g3, ?_, h.d1, h.d2, h.d3, fun i q => ⟨(h.lf i q).1, Nat.lt_of_lt_of_le (h.lf i q).2 t.size⟩, fun i q => ⟨(h.ld i q).1, Nat.lt_of_lt_of_le (h.ld i q).2 t.size⟩⟩
  exact ground_turn (G := fun i => G i ∧ i < w.heap.size ∨ w.heap.size ≤ i) h.gr (t.mono (fun i q => by
    rcases Nat.lt_or_ge i w.heap.size with l | l
    · exact Or.inl (Or.inl ⟨q, l⟩)
    · exact Or.inr l)) (fun i q => by
    rcases q with q | q
    · exact (hg i q.1 q.2).1
    · have := h.gr.big; omega)
/-- the book has hashed -/
theorem Sy.hashed {w w' : World} {sb g bk bits : Nat} {most : Int} {mb mq N ND NB : Nat} {ks : List (List Nat)} {bl : List Nat → Option (List Nat)} {cnt : Nat} {sd : Dst} {lg : Value} {F FD FB : Nat → Prop} {ord : Value} {D : DataW Value} {V : List Nat → Value} {E : Nat → Prop} (h : Sy w sb g bk bits most mb mq N ND NB ks bl cnt sd lg F FD FB ord D V E) (t : Turn FB w w') {FB' : Nat → Prop} {NB' : Nat} (hb : Bk w' bk bits NB' FB') (hf : ∀ i, FB' i → FB i ∨ w.heap.size ≤ i) : Sy w' sb g bk bits most mb mq N ND NB' ks bl cnt sd lg F FD FB' ord D V E :=
  ⟨h.cs.turn t (fun i q _ => h.d2 i q), h.dv.frame t (fun i q => h.d3 i q), hb, ground_turn h.gr t (fun i q => (h.bk.lim i q).1), h.d1, fun i q z => by
    rcases hf i z with z | z
    · exact h.d2 i q z
    · have := (h.lf i q).2; omega, fun i q z => by
    rcases hf i z with z | z
    · exact h.d3 i q z
    · have := (h.ld i q).2; omega, fun i q => ⟨(h.lf i q).1, Nat.lt_of_lt_of_le (h.lf i q).2 t.size⟩, fun i q => ⟨(h.ld i q).1, Nat.lt_of_lt_of_le (h.ld i q).2 t.size⟩⟩
/-- the device has done something -/
theorem Sy.device {w w' : World} {sb g bk bits : Nat} {most : Int} {mb mq N ND NB : Nat} {ks : List (List Nat)} {bl : List Nat → Option (List Nat)} {cnt : Nat} {sd : Dst} {lg : Value} {F FD FB : Nat → Prop} {ord : Value} {D : DataW Value} {V : List Nat → Value} {E : Nat → Prop} (h : Sy w sb g bk bits most mb mq N ND NB ks bl cnt sd lg F FD FB ord D V E) (t : Turn FD w w') {FD' : Nat → Prop} {ND' : Nat} {sd' : Dst} {lg' : Value} (hd : Dev w' FD' g sd' ND' lg') (hf : ∀ i, FD' i → FD i ∨ w.heap.size ≤ i) : Sy w' sb g bk bits most mb mq N ND' NB ks bl cnt sd' lg' F FD' FB ord D V E := by
  have hcl : ∀ i, FD' i → i < w'.heap.size := by
    obtain ⟨_, _, _, _, q, _⟩ := hd
    exact q
  exact ⟨h.cs.turn t (fun i q _ => h.d1 i q), hd, h.bk.turn t (fun i q z => h.d3 i z q), ground_turn h.gr t (fun i q => (h.ld i q).1), fun i q z => by
    rcases hf i z with z | z
    · exact h.d1 i q z
    · have := (h.lf i q).2; omega, h.d2, fun i q z => by
    rcases hf i q with q | q
    · exact h.d3 i q z
    · have := (h.bk.lim i z).2; omega, fun i q => ⟨(h.lf i q).1, Nat.lt_of_lt_of_le (h.lf i q).2 t.size⟩, fun i q => ⟨by
    rcases hf i q with q | q
    · exact (h.ld i q).1
    · have := h.gr.big; omega, hcl i q⟩⟩
/-- the store has turned -/
theorem Sy.store {w w' : World} {sb g bk bits : Nat} {most : Int} {mb mq N ND NB : Nat} {ks : List (List Nat)} {bl : List Nat → Option (List Nat)} {cnt : Nat} {sd : Dst} {lg : Value} {F FD FB : Nat → Prop} {ord : Value} {D : DataW Value} {V : List Nat → Value} {E : Nat → Prop} (h : Sy w sb g bk bits most mb mq N ND NB ks bl cnt sd lg F FD FB ord D V E) (t : Turn (fun i => F i ∨ w.heap.size ≤ i) w w') {ord' : Value} {N' : Nat} {D' : DataW Value} {V' : List Nat → Value} {E' : Nat → Prop} {ks' : List (List Nat)} {bl' : List Nat → Option (List Nat)} {cnt' : Nat} (hc : Cs w' (fun i => F i ∨ w.heap.size ≤ i) sb g bk most ord' mb mq N' D' V' E' ks' bl' cnt') : Sy w' sb g bk bits most mb mq N' ND NB ks' bl' cnt' sd lg (fun i => (F i ∨ w.heap.size ≤ i) ∧ i < w'.heap.size) FD FB ord' D' V' (fun i => E' i ∧ i < w'.heap.size) :=
  ⟨hc.clip, h.dv.frame t (fun i q z => by
    rcases z with z | z
    · exact h.d1 i z q
    · have := (h.ld i q).2; omega), h.bk.turn t (fun i q z => by
    rcases z with z | z
    · exact h.d2 i z q
    · have := (h.bk.lim i q).2; omega), ground_turn h.gr t (fun i q => by
    rcases q with q | q
    · exact (h.lf i q).1
    · have := h.gr.big; omega), fun i q z => by
    rcases q.1 with q | q
    · exact h.d1 i q z
    · have := (h.ld i z).2; omega, fun i q z => by
    rcases q.1 with q | q
    · exact h.d2 i q z
    · have := (h.bk.lim i z).2; omega, h.d3, fun i q => ⟨by
    rcases q.1 with q | q
    · exact (h.lf i q).1
    · have := h.gr.big; omega, q.2⟩, fun i q => ⟨(h.ld i q).1, Nat.lt_of_lt_of_le (h.ld i q).2 t.size⟩⟩
/-- all that is theirs -/
def All (F FD FB : Nat → Prop) : Nat → Prop := fun i => F i ∨ FD i ∨ FB i
end Go.Proofs.YtpmdjopojcgpeaaGreatDoor
