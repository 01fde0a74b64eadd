import Derived.Test.YtpmdjopojcgpeaaGreatDoorH8q
/-
  (*Store).Node of what is in the cache; what Put and Mend refuse at once. (Written by gen_h9.py.)
-/
namespace Go.Proofs.YtpmdjopojcgpeaaGreatDoor
open Go.RowKit Go.Maps Go.ChangeMaps

theorem built0 : Tryz.prog.built 38 [] = some (bv z32).toArray := by kernel_rfl
set_option maxRecDepth 100000 in
set_option maxHeartbeats 6400000 in
theorem node_cached {w : World} {sb g bk bits : Nat} {most : Int} {mb mq N ND NB : Nat} {ks : List (List Nat)} {bl : List Nat → Option (List Nat)} {cnt : Nat} {sd : Dst} {lg : Value} {F FD FB : Nat → Prop} {ord : Value} {D : DataW Value} {V : List Nat → Value} {E : Nat → Prop} (h : Sy w sb g bk bits most mb mq N ND NB ks bl cnt sd lg F FD FB ord D V E) {key : List Nat} (hk : IsH key) {x : List Nat} (hbl : bl key = some x) :
    Calls Tryz.prog 12 #[.pointer (some ⟨sb, 0, none⟩), .agg (bv key).toArray] w fun e w' => ∃ u, e = .returned (.tuple #[u, .int .i64 0]) ∧ w'.ownsRow w.heap.size 5 1 u x.length (bv x) ∧ Below w.heap.size w w' := by
  obtain ⟨W, eW⟩ : ∃ W, W = w.alloc (.cells (bv key).toArray 38) := ⟨_, rfl⟩
  have b0 : Below w.heap.size w W := by rw [eW]; exact (Below.refl _ _).alloc (Nat.le_refl _) _
  have hkb : W.rangeAt w.heap.size 0 (bv key) := by rw [eW]; exact rng_new w _ _
  have HG : Hid (∀ u, Below W.heap.size W u → Calls Tryz.prog 41 #[.pointer (some ⟨sb, 2, none⟩), .agg (bv key).toArray] u fun e w' => ∃ v, e = .returned (.tuple #[v, .bool true]) ∧ w'.ownsRow u.heap.size 5 1 v x.length (bv x) ∧ Below u.heap.size u w') := fun u b2 => by
    have hc := h.cs.keep (ch b0 b2)
    have := cget_any hc.st hc.bl hk
    rw [hbl] at this
    exact this
  have HW : Hid (W.rangeAt w.heap.size 0 (bv key) ∧ Below w.heap.size w W ∧ IsH key) := ⟨hkb, b0, hk⟩
  clear h hk hbl b0 hkb
  go_enter Tryz.func12, Tryz.ntmps12
  go_wp2_with fail
  rw [← eW]
  clear eW
  refine wp_region_held_drew (S := fun u => Below W.heap.size W u) (by kernel_rfl) (by exact (Below.refl _ _).drew) ?_
  intro hS
  change wpAnyH _ _ _ _ _ 10 _ _ _
  refine wpAnyH_take (i := 0) (v := (.pointer (some ⟨sb, 0, none⟩))) (by simp only [List.getElem?_toArray, List.getElem?_cons_zero]; rfl) (by kernel_rfl) (by kernel_rfl) (by kernel_rfl) (by exact fun _ _ _ h => h) (y_move (by kernel_rfl) _ rfl _ rfl) hS ?_
  try simp only [Act.put, List.setIfInBounds_toArray, List.set_cons_zero, List.set_cons_succ]
  refine wpAnyH_take (i := 1) (v := (.pointer (some ⟨sb, 0, none⟩))) (by simp only [List.getElem?_toArray, List.getElem?_cons_zero, List.getElem?_cons_succ]; rfl) (by kernel_rfl) (by kernel_rfl) (by kernel_rfl) (by exact fun _ _ _ h => h) (y_nil (by kernel_rfl) _ rfl _ rfl) hS ?_
  try simp only [Act.put, List.setIfInBounds_toArray, List.set_cons_zero, List.set_cons_succ]
  refine wpAnyH_take (i := 2) (v := (.pointer (some ⟨sb, 0 + 2, none⟩))) (by simp only [List.getElem?_toArray, List.getElem?_cons_zero, List.getElem?_cons_succ]; rfl) (by kernel_rfl) (by kernel_rfl) (by kernel_rfl) (by exact fun _ _ _ h => h) (y_f_Sto2 (by kernel_rfl) _ rfl _ _ rfl) hS ?_
  try simp only [Act.put, List.setIfInBounds_toArray, List.set_cons_zero, List.set_cons_succ]
  refine wpAnyH_take (i := 3) (v := (.agg (bv key).toArray)) (by simp only [List.getElem?_toArray, List.getElem?_cons_zero, List.getElem?_cons_succ]; rfl) (by kernel_rfl) (by kernel_rfl) (by kernel_rfl) (by exact fun _ _ _ h => h) (y_s_Hash (by kernel_rfl) _ rfl _ _ rfl key HW.out.2.2.1 (fun u hs => rng_keep HW.out.1 hs)) hS ?_
  try simp only [Act.put, List.setIfInBounds_toArray, List.set_cons_zero, List.set_cons_succ]
  refine wpAnyH_ready (rs := [4]) (by kernel_rfl) (by simp) ?_
  refine AllReadyH.cons (by simp only [List.getElem?_toArray, List.getElem?_cons_zero, List.getElem?_cons_succ]; rfl) (fun K hK => ?_) AllReadyH.nil
  go_simp
  refine (HG.out _ hS).mono ?_
  rintro _ u2 ⟨v, rfl, ho, hb⟩
  have HFIN : Hid (u2.ownsRow w.heap.size 5 1 v x.length (bv x) ∧ Below w.heap.size w u2) := ⟨own_rebase ho (fun b q => Nat.le_trans (ch HW.out.2.1 hS).size (ho.lt b q).1), ch (ch HW.out.2.1 hS) hb⟩
  replace hS := hS.trans (hb.mono hS.size)
  obtain ⟨va, vc, ev⟩ := own_slice ho
  subst ev
  clear hb ho
  refine hK.out _ _ hS (fun hS => ?_)
  clear hK K
  try simp only [Act.put, List.setIfInBounds_toArray, List.set_cons_zero, List.set_cons_succ]
  refine wpAnyH_take (i := 5) (v := (.tuple #[.slice va x.length vc, .bool true])) (by simp only [List.getElem?_toArray, List.getElem?_cons_zero, List.getElem?_cons_succ]; rfl) (by kernel_rfl) (by kernel_rfl) (by kernel_rfl) (by exact fun _ _ _ h => h) (y_move (by kernel_rfl) _ rfl _ rfl) hS ?_
  try simp only [Act.put, List.setIfInBounds_toArray, List.set_cons_zero, List.set_cons_succ]
  refine wpAnyH_take (i := 6) (v := (.slice va x.length vc)) (by simp only [List.getElem?_toArray, List.getElem?_cons_zero, List.getElem?_cons_succ]; rfl) (by kernel_rfl) (by kernel_rfl) (by kernel_rfl) (by exact fun _ _ _ h => h) (y_ext (by kernel_rfl) _ _ rfl _ _ rfl rfl) hS ?_
  try simp only [Act.put, List.setIfInBounds_toArray, List.set_cons_zero, List.set_cons_succ]
  refine wpAnyH_take (i := 7) (v := (.bool true)) (by simp only [List.getElem?_toArray, List.getElem?_cons_zero, List.getElem?_cons_succ]; rfl) (by kernel_rfl) (by kernel_rfl) (by kernel_rfl) (by exact fun _ _ _ h => h) (y_ext (by kernel_rfl) _ _ rfl _ _ rfl rfl) hS ?_
  try simp only [Act.put, List.setIfInBounds_toArray, List.set_cons_zero, List.set_cons_succ]
  refine wpAnyH_take (i := 8) (v := (.slice va x.length vc)) (by simp only [List.getElem?_toArray, List.getElem?_cons_zero, List.getElem?_cons_succ]; rfl) (by kernel_rfl) (by kernel_rfl) (by kernel_rfl) (by exact fun _ _ _ h => h) (y_assign (by kernel_rfl) _ rfl _ rfl) hS ?_
  try simp only [Act.put, List.setIfInBounds_toArray, List.set_cons_zero, List.set_cons_succ]
  refine wpAnyH_take (i := 9) (v := (.bool true)) (by simp only [List.getElem?_toArray, List.getElem?_cons_zero, List.getElem?_cons_succ]; rfl) (by kernel_rfl) (by kernel_rfl) (by kernel_rfl) (by exact fun _ _ _ h => h) (y_assign (by kernel_rfl) _ rfl _ rfl) hS ?_
  try simp only [Act.put, List.setIfInBounds_toArray, List.set_cons_zero, List.set_cons_succ]
  refine wpAnyH_done (by kernel_rfl) ?_ _
  clear hS HG HW
  go_wp2_with fail
  go_ret2
  exact ⟨_, rfl, HFIN.out⟩
set_option maxRecDepth 100000 in
set_option maxHeartbeats 3200000 in
theorem hput_nil (w : World) (v : Value) : Calls Tryz.prog 14 #[.pointer none, v] w fun e w' => e = .returned (.tuple #[.agg (bv z32).toArray, .int .i64 1]) ∧ Below w.heap.size w w' := by
  have hz := zvH
  have HI : Hid ((Tryz.prog.info? 38).map (·.size) = some (bv z32).length ∧ (bv z32).toArray.all (·.oneCell') = true) := ⟨iHl z32_len, bv_one _⟩
  have HBT : Hid (Tryz.prog.built 38 [] = some (bv z32).toArray) := built0
  obtain ⟨Z, eZ⟩ : ∃ Z, Z = bv z32 := ⟨_, rfl⟩
  have HZ : Hid (Z = bv z32) := eZ
  rw [← eZ] at hz HI HBT
  clear eZ
  go_enter Tryz.func14, Tryz.ntmps14
  go_wp2_with (first
    | refine wpList_bdL (by kernel_rfl) 38 [] (by rfl) _ HBT.out ?_
    | refine wpList_stN (by kernel_rfl) 38 _ _ (by rfl) Z Z HI.out.1 rfl HI.out.2 (by rfl) (by rfl) ?_)
  rw [HZ.out]
  have hrr : (w.alloc (.cells (bv z32).toArray 38)).rangeAt w.heap.size 0 (bv z32) := rng_new _ _ _
  exact bodyPost_ret (res2 rfl _ _ w.heap.size _ rfl (run_loadVar_mid _ w.heap.size 0 38 (bv z32) _ hrr Tryz.underlying38 rfl (iHl z32_len))) rfl ⟨rfl, (Below.refl _ _).alloc (Nat.le_refl _) _⟩
set_option maxRecDepth 100000 in
set_option maxHeartbeats 3200000 in
theorem hput_bad (w : World) {sb : Nat} {sa : Option Addr} {m sc : Nat} (hml : m ≤ 140737488351232) (hm : isB m = false) : Calls Tryz.prog 14 #[.pointer (some ⟨sb, 0, none⟩), .slice sa m sc] w fun e w' => e = .returned (.tuple #[.agg (bv z32).toArray, .int .i64 2]) ∧ Below w.heap.size w w' := by
  have hz := zvH
  have HI : Hid ((Tryz.prog.info? 38).map (·.size) = some (bv z32).length ∧ (bv z32).toArray.all (·.oneCell') = true) := ⟨iHl z32_len, bv_one _⟩
  have HBT : Hid (Tryz.prog.built 38 [] = some (bv z32).toArray) := built0
  have HB0 : Hid (isB m = false) := hm
  clear hm
  obtain ⟨Z, eZ⟩ : ∃ Z, Z = bv z32 := ⟨_, rfl⟩
  have HZ : Hid (Z = bv z32) := eZ
  rw [← eZ] at hz HI HBT
  clear eZ
  go_enter Tryz.func14, Tryz.ntmps14
  go_wp2_with (first
    | (go_at_call 45; refine (isBlob_any _ sa m sc hml).mono ?_; rintro _ u0 ⟨rfl, hu0⟩; rw [hu0, HB0.out]; clear hu0 u0)
    | refine wpList_bdL (by kernel_rfl) 38 [] (by rfl) _ HBT.out ?_
    | refine wpList_stN (by kernel_rfl) 38 _ _ (by rfl) Z Z HI.out.1 rfl HI.out.2 (by rfl) (by rfl) ?_)
  rw [HZ.out]
  have hrr : (w.alloc (.cells (bv z32).toArray 38)).rangeAt w.heap.size 0 (bv z32) := rng_new _ _ _
  exact bodyPost_ret (res2 rfl _ _ w.heap.size _ rfl (run_loadVar_mid _ w.heap.size 0 38 (bv z32) _ hrr Tryz.underlying38 rfl (iHl z32_len))) rfl ⟨rfl, (Below.refl _ _).alloc (Nat.le_refl _) _⟩
set_option maxRecDepth 100000 in
set_option maxHeartbeats 3200000 in
theorem mend_bad (w : World) {sb : Nat} {sa : Option Addr} {m sc : Nat} (hml : m ≤ 140737488351232) (hm : isB m = false) : Calls Tryz.prog 15 #[.pointer (some ⟨sb, 0, none⟩), .slice sa m sc] w fun e w' => e = .returned (.int .i64 2) ∧ Below w.heap.size w w' := by
  have HB0 : Hid (isB m = false) := hm
  clear hm
  go_enter Tryz.func15, Tryz.ntmps15
  go_wp2_with (go_at_call 45; refine (isBlob_any _ sa m sc hml).mono ?_; rintro _ u0 ⟨rfl, hu0⟩; rw [hu0, HB0.out]; clear hu0 u0)
  go_ret
  exact ⟨rfl, Below.refl _ _⟩
end Go.Proofs.YtpmdjopojcgpeaaGreatDoor

/-
  (*Store).Mend of what is not in quarantine. (Written by gen_h10.py.)
-/
namespace Go.Proofs.YtpmdjopojcgpeaaGreatDoor
open Go.RowKit Go.Maps Go.ChangeMaps

section
variable {ops : Array Oper} {o : Oper} {a : Act} {Q : Exit → Act → World → Prop} {w : World} {K : Act → World → Prop} {E : Prop}
theorem zv0 (w : World) : (zeroValue 88).run Tryz.prog w = .ok (.agg #[]) w := zero_of_info (n := 0) (by kernel_rfl) w
theorem r_new0 (hw : Region.wanted o (yielded ops a.tmps) = true) (ho : o.op = .alloc 88) (h : K (a.put o.dst (.pointer (some ⟨w.heap.size, 0, none⟩))) (w.alloc (.cells #[] 88))) : if Region.wanted o (yielded ops a.tmps) = true then Oper.wp Tryz.prog o a w K Q else E := by
  refine r_val hw _ _ ?_ h
  have hz := zv0
  unfold execOp
  simp only [ho]
  go_simp
end
set_option maxRecDepth 100000 in
set_option maxHeartbeats 12800000 in
theorem mend_unw {w : World} {sb g bk bits : Nat} {most : Int} {mb mq N ND NB : Nat} {ks : List (List Nat)} {bl : List Nat → Option (List Nat)} {cnt : Nat} {sd : Dst} {lg : Value} {F FD FB : Nat → Prop} {ord : Value} {D : DataW Value} {V : List Nat → Value} {E : Nat → Prop} (h : Sy w sb g bk bits most mb mq N ND NB ks bl cnt sd lg F FD FB ord D V E) (hNB : NB ≤ 1000) {sa : Option Addr} {m sc : Nat} {x : List Nat} (hm : 1 ≤ m ∧ m ≤ 1024) (hv : Vo FB w (.slice sa m sc) x) :
    Calls Tryz.prog 15 #[.pointer (some ⟨sb, 0, none⟩), .slice sa m sc] w fun e w' => e = .returned (.int .i64 220) ∧ Turn FB w w' ∧ ∃ FB', Sy w' sb g bk bits most mb mq N ND (NB + 1) ks bl cnt sd lg F FD FB' ord D V E ∧ (∀ i, FB' i → FB i ∨ w.heap.size ≤ i) := by
  obtain ⟨key, ekey⟩ : ∃ k, k = Dg.kh bits x := ⟨_, rfl⟩
  have hk : IsH key := by rw [ekey]; exact isH_kh bits x
  have HB0 : Hid (isB m = true) := decide_eq_true hm
  have hml : m ≤ 140737488351232 := by omega
  have HH : Hid (Calls Tryz.prog 22 #[.pointer (some ⟨bk, 0, none⟩), .slice sa m sc] w fun e w' => e = .returned (.agg (bv key).toArray) ∧ Turn FB w w' ∧ ∃ F', Bk w' bk bits (NB + 1) F' ∧ (∀ i, F' i → FB i ∨ w.heap.size ≤ i)) := by
    rw [ekey]
    exact bk_hash h.bk h.gr hNB hv
  have HS : Hid (Sy w sb g bk bits most mb mq N ND NB ks bl cnt sd lg F FD FB ord D V E) := h
  have HK : Hid (IsH key) := hk
  have c1 : w.cell? ⟨sb, 1, none⟩ = some (.pointer (some ⟨bk, 0, none⟩)) := h.cs.st.at_.2.1
  have hz := zvH
  have HI : Hid ((Tryz.prog.info? 38).map (·.size) = some (bv key).length ∧ (bv key).length = (bv z32).length ∧ (bv key).toArray.all (·.oneCell') = true) := ⟨iHl hk.1, by rw [bv_len, bv_len, hk.1, z32_len], bv_one _⟩
  obtain ⟨Z, eZ⟩ : ∃ Z, Z = bv z32 := ⟨_, rfl⟩
  rw [← eZ] at hz HI
  clear h hv hk ekey hNB eZ
  go_enter Tryz.func15, Tryz.ntmps15
  go_wp2_with (first
    | (go_at_call 45; refine (isBlob_any _ sa m sc hml).mono ?_; rintro _ u0 ⟨rfl, hu0⟩; rw [hu0, HB0.out]; clear hu0 u0)
    | (go_at_call 22; refine HH.out.mono ?_; rintro _ u1 ⟨rfl, ht1, hF1⟩; have H1 : Hid (Turn FB w u1 ∧ ∃ F', Bk u1 bk bits (NB + 1) F' ∧ (∀ i, F' i → FB i ∨ w.heap.size ≤ i)) := ⟨ht1, hF1⟩; clear ht1 hF1 HH c1)
    | (refine wpList_stN (by kernel_rfl) 38 _ _ (by rfl) (bv key) Z HI.out.1 HI.out.2.1 HI.out.2.2 (by rfl) (by rfl) ?_; change Hid _))
  unfold Hid
  go_wp2_with fail
  obtain ⟨FB1, hB1, hf1⟩ := H1.out.2
  have hSy1 := HS.out.hashed H1.out.1 hB1 hf1
  have b2 : Below u1.heap.size u1 (u1.alloc (.cells (bv key).toArray 38)) := (Below.refl _ _).alloc (Nat.le_refl _) _
  have HV : Hid (Sy (u1.alloc (.cells (bv key).toArray 38)) sb g bk bits most mb mq N ND (NB + 1) ks bl cnt sd lg F FD FB1 ord D V E ∧ (u1.alloc (.cells (bv key).toArray 38)).rangeAt u1.heap.size 0 (bv key) ∧ Turn FB w (u1.alloc (.cells (bv key).toArray 38)) ∧ (∀ i, FB1 i → FB i ∨ w.heap.size ≤ i)) :=
    ⟨hSy1.keep b2, rng_new _ _ _, H1.out.1.trans (Turn.of_below (F := FB) b2) (fun _ q => Or.inl q), hf1⟩
  clear hB1 hf1 hSy1 b2 H1 HS hz
  generalize u1.alloc (.cells (bv key).toArray 38) = u2 at HV ⊢
  generalize u1.heap.size = kb at HV ⊢
  have HW : Hid (∀ u, Below u2.heap.size u2 u → Sy u sb g bk bits most mb mq N ND (NB + 1) ks bl cnt sd lg F FD FB1 ord D V E ∧ u.rangeAt kb 0 (bv key)) := fun u hu => ⟨HV.out.1.keep hu, rng_keep HV.out.2.1 hu⟩
  refine wp_region_held_drew (S := fun u => Below u2.heap.size u2 u) (by kernel_rfl) (by exact (Below.refl _ _).drew) ?_
  intro hS
  change wpAnyH _ _ _ _ _ 12 _ _ _
  refine wpAnyH_take (i := 0) (v := (.pointer (some ⟨sb, 0, none⟩))) (by simp only [List.getElem?_toArray, List.getElem?_cons_zero]; rfl) (by kernel_rfl) (by kernel_rfl) (by kernel_rfl) (by exact fun _ _ _ h => h) (y_move (by kernel_rfl) _ rfl _ rfl) hS ?_
  try simp only [Act.put, List.setIfInBounds_toArray, List.set_cons_zero, List.set_cons_succ]
  refine wpAnyH_take (i := 1) (v := (.pointer (some ⟨sb, 0, none⟩))) (by simp only [List.getElem?_toArray, List.getElem?_cons_zero, List.getElem?_cons_succ]; rfl) (by kernel_rfl) (by kernel_rfl) (by kernel_rfl) (by exact fun _ _ _ h => h) (y_nil (by kernel_rfl) _ rfl _ rfl) hS ?_
  try simp only [Act.put, List.setIfInBounds_toArray, List.set_cons_zero, List.set_cons_succ]
  refine wpAnyH_take (i := 2) (v := (.pointer (some ⟨sb, 0 + 5, none⟩))) (by simp only [List.getElem?_toArray, List.getElem?_cons_zero, List.getElem?_cons_succ]; rfl) (by kernel_rfl) (by kernel_rfl) (by kernel_rfl) (by exact fun _ _ _ h => h) (y_f_Sto3 (by kernel_rfl) _ rfl _ _ rfl) hS ?_
  try simp only [Act.put, List.setIfInBounds_toArray, List.set_cons_zero, List.set_cons_succ]
  refine wpAnyH_take (i := 3) (v := (.map (some mq))) (by simp only [List.getElem?_toArray, List.getElem?_cons_zero, List.getElem?_cons_succ]; rfl) (by kernel_rfl) (by kernel_rfl) (by kernel_rfl) (by exact fun _ _ _ h => h) (y_l_mq (by kernel_rfl) _ rfl _ _ rfl _ (fun u hs => (HW.out u hs).1.cs.st.at_.2.2.2.2.2)) hS ?_
  try simp only [Act.put, List.setIfInBounds_toArray, List.set_cons_zero, List.set_cons_succ]
  refine wpAnyH_take (i := 4) (v := (.agg (bv key).toArray)) (by simp only [List.getElem?_toArray, List.getElem?_cons_zero, List.getElem?_cons_succ]; rfl) (by kernel_rfl) (by kernel_rfl) (by kernel_rfl) (by exact fun _ _ _ h => h) (y_s_Hash (by kernel_rfl) _ rfl _ _ rfl key HK.out.1 (fun u hs => (HW.out u hs).2)) hS ?_
  try simp only [Act.put, List.setIfInBounds_toArray, List.set_cons_zero, List.set_cons_succ]
  refine wpAnyH_take (i := 5) (v := (.tuple #[.agg #[], .bool false])) (by simp only [List.getElem?_toArray, List.getElem?_cons_zero, List.getElem?_cons_succ]; rfl) (by kernel_rfl) (by kernel_rfl) (by kernel_rfl) (by exact fun _ _ _ h => h) (y_look (by kernel_rfl) _ _ _ _ rfl _ _ _ rfl rfl (fun u hs => (HW.out u hs).1.cs.bad.look HK.out)) hS ?_
  try simp only [Act.put, List.setIfInBounds_toArray, List.set_cons_zero, List.set_cons_succ]
  refine wpAnyH_take (i := 6) (v := (.tuple #[.agg #[], .bool false])) (by simp only [List.getElem?_toArray, List.getElem?_cons_zero, List.getElem?_cons_succ]; rfl) (by kernel_rfl) (by kernel_rfl) (by kernel_rfl) (by exact fun _ _ _ h => h) (y_move (by kernel_rfl) _ rfl _ rfl) hS ?_
  try simp only [Act.put, List.setIfInBounds_toArray, List.set_cons_zero, List.set_cons_succ]
  refine wpAnyH_take (i := 7) (v := (.agg #[])) (by simp only [List.getElem?_toArray, List.getElem?_cons_zero, List.getElem?_cons_succ]; rfl) (by kernel_rfl) (by kernel_rfl) (by kernel_rfl) (by exact fun _ _ _ h => h) (y_ext (by kernel_rfl) _ _ rfl _ _ rfl rfl) hS ?_
  try simp only [Act.put, List.setIfInBounds_toArray, List.set_cons_zero, List.set_cons_succ]
  refine wpAnyH_take (i := 8) (v := (.bool false)) (by simp only [List.getElem?_toArray, List.getElem?_cons_zero, List.getElem?_cons_succ]; rfl) (by kernel_rfl) (by kernel_rfl) (by kernel_rfl) (by exact fun _ _ _ h => h) (y_ext (by kernel_rfl) _ _ rfl _ _ rfl rfl) hS ?_
  try simp only [Act.put, List.setIfInBounds_toArray, List.set_cons_zero, List.set_cons_succ]
  refine wpAnyH_ready (rs := [9]) (by kernel_rfl) (by simp) ?_
  refine AllReadyH.cons (by simp only [List.getElem?_toArray, List.getElem?_cons_zero, List.getElem?_cons_succ]; rfl) (fun K hK => ?_) AllReadyH.nil
  refine r_new0 (by kernel_rfl) rfl ?_
  replace hS := hS.trans (((Below.refl _ _).alloc (Nat.le_refl _) (.cells #[] 88)).mono hS.size)
  refine hK.out _ _ hS (fun hS => ?_)
  clear hK K
  try simp only [Act.put, List.setIfInBounds_toArray, List.set_cons_zero, List.set_cons_succ]
  refine wpAnyH_ready (rs := [10]) (by kernel_rfl) (by simp) ?_
  refine AllReadyH.cons (by simp only [List.getElem?_toArray, List.getElem?_cons_zero, List.getElem?_cons_succ]; rfl) (fun K hK => ?_) AllReadyH.nil
  refine r_stS (by kernel_rfl) 88 _ _ rfl u2.drew.heap.size [] [] (by kernel_rfl) rfl (by simp) (heap_alloc_new _ _) rfl rfl ?_
  have hS0 : Below u2.heap.size u2 ((u2.drew.alloc (.cells #[] 88)).setRow u2.drew.heap.size (List.toArray [])) := by
    rw [World.setRow_alloc_new]
    exact hS
  replace hS := hS0
  clear hS0
  refine hK.out _ _ hS (fun hS => ?_)
  clear hK K
  try simp only [Act.put]
  refine wpAnyH_take (i := 11) (v := (.bool false)) (by simp only [List.getElem?_toArray, List.getElem?_cons_zero, List.getElem?_cons_succ]; rfl) (by kernel_rfl) (by kernel_rfl) (by kernel_rfl) (by exact fun _ _ _ h => h) (y_assign (by kernel_rfl) _ rfl _ rfl) hS ?_
  try simp only [Act.put, List.setIfInBounds_toArray, List.set_cons_zero, List.set_cons_succ]
  refine wpAnyH_done (by kernel_rfl) ?_ _
  have HFIN : Hid (Below u2.heap.size u2 ((u2.drew.alloc (.cells #[] 88)).setRow u2.drew.heap.size (List.toArray []))) := hS
  clear hS HW
  go_wp2_with fail
  go_ret
  exact ⟨rfl, HV.out.2.2.1.trans (Turn.of_below (F := FB) HFIN.out) (fun _ q => Or.inl q), FB1, HV.out.1.keep HFIN.out, HV.out.2.2.2⟩
end Go.Proofs.YtpmdjopojcgpeaaGreatDoor
