import Derived.Test.YtpmdjopojcgpeaaGreatDoorH8q
/-
  (*Store).Fresh of a blob that is right. (Written by gen_h11.py.)
-/
namespace Go.Proofs.YtpmdjopojcgpeaaGreatDoor
open Go.RowKit Go.Maps Go.ChangeMaps

theorem own_vo {F : Nat → Prop} {w : World} {B : Nat} {v : Value} {x : List Nat} (h : w.ownsRow B 5 1 v x.length (bv x)) (hx : x.length ≤ 1048576 ∧ ∀ y ∈ x, y < 256) (hF : ∀ i, v.ownBlock = some i → ¬ F i) : Vo F w v x := by
  have hl := hx.1
  rcases h.2 with ⟨rfl, h0⟩ | ⟨g, cap, cur, rfl, hb, hg, h1, h2, h3, h4⟩
  · exact ⟨none, 0, 0, 0, by rw [h0], ⟨fun k => by omega, fun i hi => by omega, fun i hi => by omega, by omega⟩, by omega, fun _ => rfl, by omega, fun k => by omega⟩
  · refine ⟨_, g, 0, cap, rfl, ⟨fun _ => rfl, fun i hi => ?_, fun i hi => ?_, by omega⟩, h1, (fun z => by cases z), by omega, fun _ => ⟨hF g rfl, (Array.getElem?_eq_some_iff.1 hg).1⟩⟩
    · have := h.cells (g := g) rfl i _ (bv_at hi)
      rw [show (⟨g, 0, none⟩ : Addr).add i = ⟨g, 0 + i, none⟩ by unfold Addr.add; split <;> simp_all] at this
      exact this
    · have := gd_lt hx.2 i
      omega
set_option maxRecDepth 100000 in
set_option maxHeartbeats 12800000 in
theorem fresh_right {w : World} {sb g bk bits : Nat} {most : Int} {mb mq N ND NB : Nat} {ks : List (List Nat)} {bl : List Nat → Option (List Nat)} {cnt : Nat} {sd : Dst} {lg : Value} {F FD FB : Nat → Prop} {ord : Value} {D : DataW Value} {V : List Nat → Value} {E : Nat → Prop} (h : Sy w sb g bk bits most mb mq N ND NB ks bl cnt sd lg F FD FB ord D V E) (hND : ND ≤ 1073741000) (hNB : NB ≤ 1000) {key : List Nat} (hk : IsH key) {x : List Nat} (hbl : sd.bl key = some x) (hr : refu sd 1 key 0 = 0) (hx : (1 ≤ x.length ∧ x.length ≤ 1024) ∧ ∀ y ∈ x, y < 256) (hkey : key = Dg.kh bits x) :
    Calls Tryz.prog 13 #[.pointer (some ⟨sb, 0, none⟩), .agg (bv key).toArray] w fun e w' => ∃ u, e = .returned (.tuple #[u, .int .i64 0]) ∧ w'.ownsRow w.heap.size 5 1 u x.length (bv x) ∧ Turn (All F FD FB) w w' ∧ ∃ FD' FB', Sy w' sb g bk bits most mb mq N (ND + 6) (NB + 1) ks bl cnt (asked sd 0) lg F FD' FB' ord D V E ∧ (∀ i, All F FD' FB' i → (All F FD FB i ∨ w.heap.size ≤ i) ∧ u.ownBlock ≠ some i) := by
  obtain ⟨W, eW⟩ : ∃ W, W = w.alloc (.cells (bv key).toArray 38) := ⟨_, rfl⟩
  have b0 : Below w.heap.size w W := by rw [eW]; exact (Below.refl _ _).alloc (Nat.le_refl _) _
  have hkb : W.heap[w.heap.size]? = some (.cells (bv key).toArray 38 (0, 0)) := by rw [eW]; exact heap_alloc_new _ _
  have bW : Below w.heap.size w W.drew := b0.drew
  have hsy := h.keep bW
  have HGET : Hid (Calls Tryz.prog 43 #[.pointer (some ⟨g, 0, none⟩), .agg (bv key).toArray] W.drew fun e w' => ∃ b, e = .returned (.tuple #[b, .int .i64 0]) ∧ Tell FD g (ND + 6) (asked sd 0) (fun v => v = lg) x W.drew w' b) := by
    have := dev_get hsy.dv (by omega) hk hr
    rw [hbl] at this
    exact this
  have HK : Hid (IsH key ∧ NB ≤ 1000 ∧ key = Dg.kh bits x) := ⟨hk, hNB, hkey⟩
  have HX : Hid ((1 ≤ x.length ∧ x.length ≤ 1024) ∧ ∀ y ∈ x, y < 256) := hx
  have HL : Hid (∀ i, All F FD FB i → i < w.heap.size) := fun i q => by
    rcases q with q | q | q
    · exact (h.lf i q).2
    · exact (h.ld i q).2
    · exact (h.bk.lim i q).2
  have HS : Hid (Sy W.drew sb g bk bits most mb mq N ND NB ks bl cnt sd lg F FD FB ord D V E ∧ Below w.heap.size w W.drew ∧ W.drew.heap[w.heap.size]? = some (.cells (bv key).toArray 38 (0, 0))) := ⟨hsy, bW, hkb⟩
  have HI : Hid ((Tryz.prog.info? 38).map (·.size) = some (bv key).length) := iHl hk.1
  clear h hk hbl hr hx hkey b0 hkb bW hsy hND hNB
  go_enter Tryz.func13, Tryz.ntmps13
  go_wp2_with fail
  rw [← eW]
  clear eW
  refine wp_region_held_drew (S := fun u => Stb u sb g bk most ord mb mq ∧ u.heap[w.heap.size]? = some (.cells (bv key).toArray 38 (0, 0))) (by kernel_rfl) (by exact ⟨⟨HS.out.1.cs.st.blk⟩, HS.out.2.2⟩) ?_
  intro hS
  change wpAnyH _ _ _ _ _ 11 _ _ _
  refine wpAnyH_take (i := 0) (v := (.pointer (some ⟨sb, 0, none⟩))) (by simp only [List.getElem?_toArray, List.getElem?_cons_zero]; rfl) (by kernel_rfl) (by kernel_rfl) (by kernel_rfl) (by exact fun _ _ _ h => h) (y_move (by kernel_rfl) _ rfl _ rfl) hS ?_
  try simp only [Act.put, List.setIfInBounds_toArray, List.set_cons_zero, List.set_cons_succ]
  refine wpAnyH_take (i := 1) (v := (.pointer (some ⟨sb, 0, none⟩))) (by simp only [List.getElem?_toArray, List.getElem?_cons_zero, List.getElem?_cons_succ]; rfl) (by kernel_rfl) (by kernel_rfl) (by kernel_rfl) (by exact fun _ _ _ h => h) (y_nil (by kernel_rfl) _ rfl _ rfl) hS ?_
  try simp only [Act.put, List.setIfInBounds_toArray, List.set_cons_zero, List.set_cons_succ]
  refine wpAnyH_take (i := 2) (v := (.pointer (some ⟨sb, 0, none⟩))) (by simp only [List.getElem?_toArray, List.getElem?_cons_zero, List.getElem?_cons_succ]; rfl) (by kernel_rfl) (by kernel_rfl) (by kernel_rfl) (by exact fun _ _ _ h => h) (y_f_Sto0 (by kernel_rfl) _ rfl _ _ rfl) hS ?_
  try simp only [Act.put, List.setIfInBounds_toArray, List.set_cons_zero, List.set_cons_succ]
  refine wpAnyH_take (i := 3) (v := (.pointer (some ⟨g, 0, none⟩))) (by simp only [List.getElem?_toArray, List.getElem?_cons_zero, List.getElem?_cons_succ]; rfl) (by kernel_rfl) (by kernel_rfl) (by kernel_rfl) (by exact fun _ _ _ h => h) (y_l_dev (by kernel_rfl) _ rfl _ _ rfl _ (fun u hs => hs.1.at_.1)) hS ?_
  try simp only [Act.put, List.setIfInBounds_toArray, List.set_cons_zero, List.set_cons_succ]
  refine wpAnyH_take (i := 4) (v := (.agg (bv key).toArray)) (by simp only [List.getElem?_toArray, List.getElem?_cons_zero, List.getElem?_cons_succ]; rfl) (by kernel_rfl) (by kernel_rfl) (by kernel_rfl) (by exact fun _ _ _ h => h) (y_s_Hash (by kernel_rfl) _ rfl _ _ rfl key HK.out.1.1 (fun u hs => blk_rng hs.2)) hS ?_
  try simp only [Act.put, List.setIfInBounds_toArray, List.set_cons_zero, List.set_cons_succ]
  refine wpAnyH_ready (rs := [5]) (by kernel_rfl) (by simp) ?_
  refine AllReadyH.cons (by simp only [List.getElem?_toArray, List.getElem?_cons_zero, List.getElem?_cons_succ]; rfl) (fun K hK => ?_) AllReadyH.nil
  go_simp
  refine HGET.out.mono ?_
  rintro _ u3 ⟨tb, rfl, FD3, lg3, hD3, rfl, ht3, hf3, ho3⟩
  have hsb : ¬ FD sb := fun q => HS.out.1.d1 _ HS.out.1.cs.fs.1 q
  have hkn : ¬ FD w.heap.size := fun q => by have := HL.out _ (Or.inr (Or.inl q)); omega
  have hS3 := (⟨hS.1.turn ht3 hsb, ht3.at_new hS.2 hkn⟩ : Stb u3 sb g bk most ord mb mq ∧ u3.heap[w.heap.size]? = some (.cells (bv key).toArray 38 (0, 0)))
  have hlt := (Array.getElem?_eq_some_iff.1 HS.out.2.2).1
  have HV : Hid (Sy u3 sb g bk bits most mb mq N (ND + 6) NB ks bl cnt (asked sd 0) lg3 F FD3 FB ord D V E ∧ u3.heap[w.heap.size]? = some (.cells (bv key).toArray 38 (0, 0)) ∧ Turn (All F FD FB) w u3 ∧ (∀ i, FD3 i → (FD i ∨ w.heap.size ≤ i) ∧ tb.ownBlock ≠ some i) ∧ u3.ownsRow w.heap.size 5 1 tb x.length (bv x) ∧ (∀ i, tb.ownBlock = some i → w.heap.size < i)) :=
    ⟨HS.out.1.device ht3 hD3 (fun i q => (hf3 i q).1), hS3.2, (Turn.of_below (F := All F FD FB) HS.out.2.1).trans ht3 (fun i q => Or.inl (Or.inr (Or.inl q))), fun i q => ⟨by
      rcases (hf3 i q).1 with q | q
      · exact Or.inl q
      · exact Or.inr (by omega), (hf3 i q).2⟩, own_rebase ho3 (fun b q => by have := (ho3.lt b q).1; omega), fun i q => by have := (ho3.lt i q).1; omega⟩
  obtain ⟨ta, tc, et⟩ := own_slice ho3
  subst et
  clear hD3 ht3 hf3 ho3 hsb hkn hlt
  refine hK.out _ _ hS3 (fun hS => ?_)
  clear hK K
  try simp only [Act.put, List.setIfInBounds_toArray, List.set_cons_zero, List.set_cons_succ]
  refine wpAnyH_take (i := 6) (v := (.tuple #[.slice ta x.length tc, .int .i64 0])) (by simp only [List.getElem?_toArray, List.getElem?_cons_zero, List.getElem?_cons_succ]; rfl) (by kernel_rfl) (by kernel_rfl) (by kernel_rfl) (by exact fun _ _ _ h => h) (y_move (by kernel_rfl) _ rfl _ rfl) hS ?_
  try simp only [Act.put, List.setIfInBounds_toArray, List.set_cons_zero, List.set_cons_succ]
  refine wpAnyH_take (i := 7) (v := (.slice ta x.length tc)) (by simp only [List.getElem?_toArray, List.getElem?_cons_zero, List.getElem?_cons_succ]; rfl) (by kernel_rfl) (by kernel_rfl) (by kernel_rfl) (by exact fun _ _ _ h => h) (y_ext (by kernel_rfl) _ _ rfl _ _ rfl rfl) hS ?_
  try simp only [Act.put, List.setIfInBounds_toArray, List.set_cons_zero, List.set_cons_succ]
  refine wpAnyH_take (i := 8) (v := (.int .i64 0)) (by simp only [List.getElem?_toArray, List.getElem?_cons_zero, List.getElem?_cons_succ]; rfl) (by kernel_rfl) (by kernel_rfl) (by kernel_rfl) (by exact fun _ _ _ h => h) (y_ext (by kernel_rfl) _ _ rfl _ _ rfl rfl) hS ?_
  try simp only [Act.put, List.setIfInBounds_toArray, List.set_cons_zero, List.set_cons_succ]
  refine wpAnyH_take (i := 9) (v := (.slice ta x.length tc)) (by simp only [List.getElem?_toArray, List.getElem?_cons_zero, List.getElem?_cons_succ]; rfl) (by kernel_rfl) (by kernel_rfl) (by kernel_rfl) (by exact fun _ _ _ h => h) (y_assign (by kernel_rfl) _ rfl _ rfl) hS ?_
  try simp only [Act.put, List.setIfInBounds_toArray, List.set_cons_zero, List.set_cons_succ]
  refine wpAnyH_take (i := 10) (v := (.int .i64 0)) (by simp only [List.getElem?_toArray, List.getElem?_cons_zero, List.getElem?_cons_succ]; rfl) (by kernel_rfl) (by kernel_rfl) (by kernel_rfl) (by exact fun _ _ _ h => h) (y_assign (by kernel_rfl) _ rfl _ rfl) hS ?_
  try simp only [Act.put, List.setIfInBounds_toArray, List.set_cons_zero, List.set_cons_succ]
  refine wpAnyH_done (by kernel_rfl) ?_ _
  clear hS HS HGET
  have HRT : Hid (Calls Tryz.prog 44 #[.pointer (some ⟨sb, 0, none⟩), .agg (bv key).toArray, .slice ta x.length tc] u3 fun e w' => e = .returned (.bool true) ∧ Turn FB u3 w' ∧ ∃ F', Bk w' bk bits (NB + 1) F' ∧ (∀ i, F' i → FB i ∨ u3.heap.size ≤ i)) :=
    right_yes HV.out.1.cs HV.out.1.bk HV.out.1.gr HK.out.2.1 (fun i q z => HV.out.1.d2 i z q) HK.out.1 (own_vo HV.out.2.2.2.2.1 ⟨by have := HX.out.1.2; omega, HX.out.2⟩ (fun i q z => by have := HV.out.2.2.2.2.2 i q; have := HL.out i (Or.inr (Or.inr z)); omega)) HX.out.1 HK.out.2.2
  have HR3 : Hid (u3.rangeAt w.heap.size 0 (bv key)) := blk_rng HV.out.2.1
  go_wp2_with (first
    | refine wpList_load_mid_g (by kernel_rfl) 38 _ (by rfl) w.heap.size 0 (by rfl) (bv key) _ HR3.out Tryz.underlying38 rfl HI.out ?_
    | (go_at_call 44; refine HRT.out.mono ?_; rintro _ u4 ⟨rfl, ht4, hF4⟩; have H4 : Hid (Turn FB u3 u4 ∧ ∃ F', Bk u4 bk bits (NB + 1) F' ∧ (∀ i, F' i → FB i ∨ u3.heap.size ≤ i)) := ⟨ht4, hF4⟩; clear ht4 hF4 HRT))
  obtain ⟨FB4, hB4, hf4⟩ := H4.out.2
  have ht4 := H4.out.1
  have hn4 : ¬ FB w.heap.size := fun q => by have := HL.out _ (Or.inr (Or.inr q)); omega
  have hs3 := HV.out.2.2.1.size
  have hl3 := (Array.getElem?_eq_some_iff.1 HV.out.2.1).1
  have HV4 : Hid (Sy u4 sb g bk bits most mb mq N (ND + 6) (NB + 1) ks bl cnt (asked sd 0) lg3 F FD3 FB4 ord D V E ∧ u4.heap[w.heap.size]? = some (.cells (bv key).toArray 38 (0, 0)) ∧ Turn (All F FD FB) w u4 ∧ (∀ i, FD3 i → (FD i ∨ w.heap.size ≤ i) ∧ (Value.slice ta x.length tc).ownBlock ≠ some i) ∧ u4.ownsRow w.heap.size 5 1 (.slice ta x.length tc) x.length (bv x) ∧ (∀ i, (Value.slice ta x.length tc).ownBlock = some i → w.heap.size < i) ∧ (∀ i, FB4 i → (FB i ∨ w.heap.size ≤ i) ∧ (Value.slice ta x.length tc).ownBlock ≠ some i)) := by
    refine ⟨HV.out.1.hashed ht4 hB4 hf4, ht4.at_new HV.out.2.1 hn4, HV.out.2.2.1.trans ht4 (fun i q => Or.inl (Or.inr (Or.inr q))), HV.out.2.2.2.1, own_turn HV.out.2.2.2.2.1 ht4 (fun i q z => by have := HV.out.2.2.2.2.2 i q; have := HL.out i (Or.inr (Or.inr z)); omega), HV.out.2.2.2.2.2, fun i q => ?_⟩
    rcases hf4 i q with q | q
    · exact ⟨Or.inl q, fun z => by have := HV.out.2.2.2.2.2 i z; have := HL.out i (Or.inr (Or.inr q)); omega⟩
    · exact ⟨Or.inr (by omega), fun z => by have := (HV.out.2.2.2.2.1.lt i z).2; omega⟩
  clear hB4 hf4 ht4 hn4 hs3 hl3 H4 HV HR3
  refine wp_region_held_drew (S := fun u => u.heap[w.heap.size]? = some (.cells (bv key).toArray 38 (0, 0)) ∧ Stb u sb g bk most ord mb mq) (by kernel_rfl) (by exact ⟨HV4.out.2.1, ⟨HV4.out.1.cs.st.blk⟩⟩) ?_
  intro hS
  change wpAnyH _ _ _ _ _ 6 _ _ _
  refine wpAnyH_take (i := 0) (v := (.pointer (some ⟨sb, 0, none⟩))) (by simp only [List.getElem?_toArray, List.getElem?_cons_zero]; rfl) (by kernel_rfl) (by kernel_rfl) (by kernel_rfl) (by exact fun _ _ _ h => h) (y_move (by kernel_rfl) _ rfl _ rfl) hS ?_
  try simp only [Act.put, List.setIfInBounds_toArray, List.set_cons_zero, List.set_cons_succ]
  refine wpAnyH_take (i := 1) (v := (.pointer (some ⟨sb, 0, none⟩))) (by simp only [List.getElem?_toArray, List.getElem?_cons_zero, List.getElem?_cons_succ]; rfl) (by kernel_rfl) (by kernel_rfl) (by kernel_rfl) (by exact fun _ _ _ h => h) (y_nil (by kernel_rfl) _ rfl _ rfl) hS ?_
  try simp only [Act.put, List.setIfInBounds_toArray, List.set_cons_zero, List.set_cons_succ]
  refine wpAnyH_take (i := 2) (v := (.pointer (some ⟨sb, 0 + 5, none⟩))) (by simp only [List.getElem?_toArray, List.getElem?_cons_zero, List.getElem?_cons_succ]; rfl) (by kernel_rfl) (by kernel_rfl) (by kernel_rfl) (by exact fun _ _ _ h => h) (y_f_Sto3 (by kernel_rfl) _ rfl _ _ rfl) hS ?_
  try simp only [Act.put, List.setIfInBounds_toArray, List.set_cons_zero, List.set_cons_succ]
  refine wpAnyH_take (i := 3) (v := (.map (some mq))) (by simp only [List.getElem?_toArray, List.getElem?_cons_zero, List.getElem?_cons_succ]; rfl) (by kernel_rfl) (by kernel_rfl) (by kernel_rfl) (by exact fun _ _ _ h => h) (y_l_mq (by kernel_rfl) _ rfl _ _ rfl _ (fun u hs => hs.2.at_.2.2.2.2.2)) hS ?_
  try simp only [Act.put, List.setIfInBounds_toArray, List.set_cons_zero, List.set_cons_succ]
  refine wpAnyH_take (i := 4) (v := (.agg (bv key).toArray)) (by simp only [List.getElem?_toArray, List.getElem?_cons_zero, List.getElem?_cons_succ]; rfl) (by kernel_rfl) (by kernel_rfl) (by kernel_rfl) (by exact fun _ _ _ h => h) (y_s_Hash (by kernel_rfl) _ rfl _ _ rfl key HK.out.1.1 (fun u hs => blk_rng hs.1)) hS ?_
  try simp only [Act.put, List.setIfInBounds_toArray, List.set_cons_zero, List.set_cons_succ]
  refine wpAnyH_ready (rs := [5]) (by kernel_rfl) (by simp) ?_
  refine AllReadyH.cons (by simp only [List.getElem?_toArray, List.getElem?_cons_zero, List.getElem?_cons_succ]; rfl) (fun K hK => ?_) AllReadyH.nil
  have bD : Below u4.heap.size u4 u4.drew := (Below.refl _ _).drew
  have hSy := HV4.out.1.keep bD
  obtain ⟨u5, hr5, hE5, t5⟩ := hSy.cs.bad.del HK.out.1 _
  refine r_delete (by kernel_rfl) _ _ _ _ rfl _ _ u5 rfl rfl hr5 ?_
  have hF5 : ∀ i, i = mq → F i := fun i e => by rw [e]; exact hSy.cs.fs.2.2
  have hna : w.heap.size ≠ mq := fun e => by have := HL.out mq (Or.inl hSy.cs.fs.2.2); omega
  have hS5 := (⟨t5.at_new hS.1 hna, hS.2.turn t5 (fun e => ne_map_blk hSy.cs.st.blk hSy.cs.bad.own e.symm)⟩ : u5.heap[w.heap.size]? = some (.cells (bv key).toArray 38 (0, 0)) ∧ Stb u5 sb g bk most ord mb mq)
  have HFIN : Hid (u5.ownsRow w.heap.size 5 1 (.slice ta x.length tc) x.length (bv x) ∧ Turn (All F FD FB) w u5 ∧ ∃ FD' FB', Sy u5 sb g bk bits most mb mq N (ND + 6) (NB + 1) ks bl cnt (asked sd 0) lg3 F FD' FB' ord D V E ∧ (∀ i, All F FD' FB' i → (All F FD FB i ∨ w.heap.size ≤ i) ∧ (Value.slice ta x.length tc).ownBlock ≠ some i)) := by
    refine ⟨own_turn (own_off HV4.out.2.2.2.2.1 (G := fun _ => False) (Turn.of_below bD) (Off.none _ _)) t5 (fun i q e => by have := HV4.out.2.2.2.2.2.1 i q; have := HL.out mq (Or.inl hSy.cs.fs.2.2); omega), (HV4.out.2.2.1.trans (Turn.of_below (F := All F FD FB) bD) (fun _ q => Or.inl q)).trans t5 (fun i e => Or.inl (Or.inl (hF5 i e))), FD3, FB4, hSy.inner t5 hF5 (hSy.cs.delBad t5 hE5), fun i q => ?_⟩
    rcases q with q | q | q
    · exact ⟨Or.inl (Or.inl q), fun z => by have := HV4.out.2.2.2.2.2.1 i z; have := HL.out i (Or.inl q); omega⟩
    · refine ⟨?_, (HV4.out.2.2.2.1 i q).2⟩
      rcases (HV4.out.2.2.2.1 i q).1 with q | q
      · exact Or.inl (Or.inr (Or.inl q))
      · exact Or.inr q
    · refine ⟨?_, (HV4.out.2.2.2.2.2.2 i q).2⟩
      rcases (HV4.out.2.2.2.2.2.2 i q).1 with q | q
      · exact Or.inl (Or.inr (Or.inr q))
      · exact Or.inr q
  clear hSy hE5 t5 hF5 hna hr5
  refine hK.out _ _ hS5 (fun hS => ?_)
  clear hK K
  try simp only [Act.put]
  refine wpAnyH_done (by kernel_rfl) ?_ _
  clear hS HV4
  go_wp2_with fail
  go_ret2
  exact ⟨_, rfl, HFIN.out⟩
end Go.Proofs.YtpmdjopojcgpeaaGreatDoor
