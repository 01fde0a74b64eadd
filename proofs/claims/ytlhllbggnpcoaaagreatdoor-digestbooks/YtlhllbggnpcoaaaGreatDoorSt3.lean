import Derived.Test.YtlhllbggnpcoaaaGreatDoorSt1
/-
  cairnlaw04.step, of a code that is told.
-/
namespace Go.Proofs.YtlhllbggnpcoaaaGreatDoor
open Go.RowKit Go.Sort Go.Maps

set_option maxRecDepth 100000 in
set_option maxHeartbeats 6400000 in
theorem step_three_no (W0 w : World) (sb qb : Nat) (st : Bst) (F G : Nat → Prop) (N : Nat) (E0 : List (Nat × Obj)) (h : DX W0 w sb qb st st F G E0) (hGr : Gr W0) (hB : Bd st N) (hN : N ≤ 900) (kind : Int) (a : Option Addr) (b off c : Nat) (t : List Nat) (ht : Vw W0 a b off t) (hc : t.length ≤ c) (hnil : a = none → c = 0) (hs : t.length ≤ 140737488351232) (k : List Nat) (hk : IsH k) (hkind : kind = 3 ∧ kc st.cbits st.S t ≠ k) :
    Calls Tryz.prog 20 #[(.pointer (some ⟨sb, 0, none⟩)), (.pointer (some ⟨qb, 0, none⟩)), .agg (opc kind a t.length c k)] w fun e w' => e = .returned (.bool true) ∧ ∃ st' F' G', Bd st' (N + 2) ∧ DX W0 w' sb qb st' st' F' G' E0 := by
  have HKD := hid_of hkind
  clear hkind
  have d1 : DX W0 (w.alloc (.cells (opc kind a t.length c k) 49)) sb qb st st F G ((w.heap.size, (.cells (opc kind a t.length c k) 49 (0, 0))) :: E0) := h.more ((Below.refl _ _).alloc (Nat.le_refl _) _) (Nat.le_refl _) (heap_alloc_new _ _)
  obtain ⟨W1, hW1⟩ : ∃ W1, W1 = w.alloc (.cells (opc kind a t.length c k) 49) := ⟨_, rfl⟩
  obtain ⟨ob, hob⟩ : ∃ ob, ob = w.heap.size := ⟨_, rfl⟩
  rw [← hW1, ← hob] at d1
  have HX : Hid (Gr W0 ∧ Bd st N ∧ N ≤ 900 ∧ Vw W0 a b off t ∧ t.length ≤ c ∧ (a = none → c = 0) ∧ IsH k ∧ (∀ v, Below W0.heap.size W0 v → Gr v) ∧ 2 < W0.heap.size ∧ t.length ≤ 140737488351232) := ⟨hGr, hB, hN, ht, hc, hnil, hk, fun v hv => hGr.below hv, hGr.g.big, hs⟩
  have HFB : Hid (∀ (v : World) (s1 s2 : Bst) (F' G' : Nat → Prop) (E : List (Nat × Obj)), DX W0 v sb qb s1 s2 F' G' E → 0 < t.length → ¬ F' b) := fun v s1 s2 F' G' E d h0 z => by
    have h1 := ht.lt h0
    have h2 := (d.bk.lim b z).1
    omega
  have HW : Hid (W0.heap.size ≤ ob ∧ ob < W1.heap.size) := ⟨by rw [hob]; exact h.low.size, (Array.getElem?_eq_some_iff.1 (d1.at_ (List.mem_cons_self ..))).1⟩
  have rm := roomy_any4 W1 a b off c t (ht.below d1.low) hnil (by omega)
  have c1 := (opc_cells (d1.at_ (List.mem_cons_self ..))).2.1
  have HD1 : Hid (DX W0 W1 sb qb st st F G ((ob, (.cells (opc kind a t.length c k) 49 (0, 0))) :: E0)) := d1
  clear h hGr hB hN ht hc hnil hk d1
  go_enter Tryz.func20, Tryz.ntmps20
  go_upto_region 1 with fail
  rw [← hW1, ← hob]
  clear hW1 hob
  go_wp2_with fail
  refine rm.mono ?_
  rintro _ w2 ⟨g, cap, rfl, sd, hg, b2⟩
  obtain ⟨og, hog⟩ := str_obj sd
  have d2 := HD1.out.more b2 hg hog
  have HG : Hid (W0.heap.size ≤ g ∧ ob ≠ g ∧ W0.heap.size ≤ ob ∧ ∀ p ∈ E0, p.1 ≠ g) := by
    have := HW.out
    refine ⟨by omega, by omega, this.1, fun p hp => ?_⟩
    have h1 := (Array.getElem?_eq_some_iff.1 (HD1.out.e p (List.mem_cons_of_mem _ hp)).1).1
    omega
  have HSD : Hid (∀ v : World, v.heap[g]? = some og → Str v (fun i => i = g) (.slice (some ⟨g, 0, none⟩) (t ++ mks).length cap) (t ++ mks)) := fun v hv => str_at sd (hv.trans hog.symm)
  have HCP : Hid (t.length ≤ cap) := by have := (own_row sd.own).2.1; rw [List.length_append] at this; show t.length ≤ cap; omega
  have HD2 : Hid (DX W0 w2 sb qb st st F G ((g, og) :: (ob, (.cells (opc kind a t.length c k) 49 (0, 0))) :: E0)) := d2
  have c0 := (opc_cells (d2.at_ (List.mem_cons_of_mem _ (List.mem_cons_self ..)))).1
  clear rm c1 sd hg b2 hog d2 HD1 HW
  rw [HKD.out.1] at c0
  have HCS := hid_of HKD.out.2
  go_wp2_with fail
  have d2d := HD2.out.below ((Turn.drew (F := fun _ => False) w2).below (fun _ f => f.elim) (Nat.le_refl _) : Below w2.heap.size w2 w2.drew)
  have s0 : (fun v => v.heap[ob]? = some (.cells (opc kind a t.length c k) 49 (0, 0))) w2.drew := d2d.at_ (List.mem_cons_of_mem _ (List.mem_cons_self ..))
  have HDD : Hid (DX W0 w2.drew sb qb st st F G ((g, og) :: (ob, (.cells (opc kind a t.length c k) 49 (0, 0))) :: E0)) := d2d
  refine wp_region_held_drew (S := fun v => v.heap[ob]? = some (.cells (opc kind a t.length c k) 49 (0, 0))) (by kernel_rfl) s0 ?_
  intro hS
  clear s0 d2d HD2 c0
  change wpAnyH _ _ _ _ _ 13 _ _ _
  generalize w2.drew = wd at hS HDD ⊢
  refine wpAnyH_take (i := 0) (v := (.pointer (some ⟨sb, 0, none⟩))) (by simp only [List.getElem?_toArray, List.getElem?_cons_zero]; rfl) (by kernel_rfl) (by kernel_rfl) (by kernel_rfl) (by exact fun _ _ _ h => h) (y_move (by kernel_rfl) _ rfl _ rfl) hS ?_
  try simp only [Act.put, List.setIfInBounds_toArray, List.set_cons_zero, List.set_cons_succ]
  refine wpAnyH_take (i := 1) (v := (.slice (some ⟨g, 0, none⟩) t.length cap)) (by simp only [List.getElem?_toArray, List.getElem?_cons_zero, List.getElem?_cons_succ]; rfl) (by kernel_rfl) (by kernel_rfl) (by kernel_rfl) (by exact fun _ _ _ h => h) (y_move (by kernel_rfl) _ rfl _ rfl) hS ?_
  try simp only [Act.put, List.setIfInBounds_toArray, List.set_cons_zero, List.set_cons_succ]
  refine wpAnyH_take (i := 2) (v := (.pointer (some ⟨ob, 0 + 2, none⟩))) (by simp only [List.getElem?_toArray, List.getElem?_cons_zero, List.getElem?_cons_succ]; rfl) (by kernel_rfl) (by kernel_rfl) (by kernel_rfl) (by exact fun _ _ _ h => h) (y_fieldO (by kernel_rfl) _ 2 rfl ob 0 rfl (by decide)) hS ?_
  try simp only [Act.put, List.setIfInBounds_toArray, List.set_cons_zero, List.set_cons_succ]
  refine wpAnyH_take (i := 3) (v := (.agg (hA k))) (by simp only [List.getElem?_toArray, List.getElem?_cons_zero, List.getElem?_cons_succ]; rfl) (by kernel_rfl) (by kernel_rfl) (by kernel_rfl) (by exact fun _ _ _ h => h) (yieldsIf_load_mid (by kernel_rfl) _ _ rfl ob (0 + 2) rfl _ _ (fun v hs => (opc_cells hs).2.2) Tryz.underlying31 rfl (hL_len HX.out.2.2.2.2.2.2.1)) hS ?_
  try simp only [Act.put, List.setIfInBounds_toArray, List.set_cons_zero, List.set_cons_succ]
  refine wpAnyH_take (i := 5) (v := (.pointer (some ⟨qb, 0, none⟩))) (by simp only [List.getElem?_toArray, List.getElem?_cons_zero, List.getElem?_cons_succ]; rfl) (by kernel_rfl) (by kernel_rfl) (by kernel_rfl) (by exact fun _ _ _ h => h) (y_move (by kernel_rfl) _ rfl _ rfl) hS ?_
  try simp only [Act.put, List.setIfInBounds_toArray, List.set_cons_zero, List.set_cons_succ]
  refine wpAnyH_take (i := 6) (v := (.pointer (some ⟨ob, 0 + 1, none⟩))) (by simp only [List.getElem?_toArray, List.getElem?_cons_zero, List.getElem?_cons_succ]; rfl) (by kernel_rfl) (by kernel_rfl) (by kernel_rfl) (by exact fun _ _ _ h => h) (y_fieldO (by kernel_rfl) _ 1 rfl ob 0 rfl (by decide)) hS ?_
  try simp only [Act.put, List.setIfInBounds_toArray, List.set_cons_zero, List.set_cons_succ]
  refine wpAnyH_take (i := 7) (v := (.slice a t.length c)) (by simp only [List.getElem?_toArray, List.getElem?_cons_zero, List.getElem?_cons_succ]; rfl) (by kernel_rfl) (by kernel_rfl) (by kernel_rfl) (by exact fun _ _ _ h => h) (y_loadB (by kernel_rfl) _ rfl ob (0 + 1) rfl _ (fun v hs => (opc_cells hs).2.1)) hS ?_
  try simp only [Act.put, List.setIfInBounds_toArray, List.set_cons_zero, List.set_cons_succ]
  refine wpAnyH_take (i := 8) (v := (.pointer (some ⟨ob, 0 + 2, none⟩))) (by simp only [List.getElem?_toArray, List.getElem?_cons_zero, List.getElem?_cons_succ]; rfl) (by kernel_rfl) (by kernel_rfl) (by kernel_rfl) (by exact fun _ _ _ h => h) (y_fieldO (by kernel_rfl) _ 2 rfl ob 0 rfl (by decide)) hS ?_
  try simp only [Act.put, List.setIfInBounds_toArray, List.set_cons_zero, List.set_cons_succ]
  refine wpAnyH_take (i := 9) (v := (.agg (hA k))) (by simp only [List.getElem?_toArray, List.getElem?_cons_zero, List.getElem?_cons_succ]; rfl) (by kernel_rfl) (by kernel_rfl) (by kernel_rfl) (by exact fun _ _ _ h => h) (yieldsIf_load_mid (by kernel_rfl) _ _ rfl ob (0 + 2) rfl _ _ (fun v hs => (opc_cells hs).2.2) Tryz.underlying31 rfl (hL_len HX.out.2.2.2.2.2.2.1)) hS ?_
  try simp only [Act.put, List.setIfInBounds_toArray, List.set_cons_zero, List.set_cons_succ]
  refine wpAnyH_ready (rs := [4]) (by kernel_rfl) (by simp) ?_
  refine AllReadyH.cons (by simp only [List.getElem?_toArray, List.getElem?_cons_zero, List.getElem?_cons_succ]; rfl) (fun K hK => ?_) AllReadyH.nil
  have cp := accept_no wd W0.heap.size sb st F HDD.out.bk (HX.out.2.2.2.2.2.2.2.1 _ HDD.out.low).g HX.out.2.2.2.2.2.2.2.2.1 (some ⟨g, 0, none⟩) g 0 cap t (vwd_of (HSD.out wd) (HDD.out.at_ (List.mem_cons_self ..))) HCP.out (fun _ => HDD.out.off (List.mem_cons_self ..)) k HX.out.2.2.2.2.2.2.1 HCS.out
  refine r_call3 10 _ _ _ #[22, 26, 31] rfl (by kernel_rfl) (.pointer (some ⟨sb, 0, none⟩)) (.slice (some ⟨g, 0, none⟩) t.length cap) (.agg (hA k)) rfl rfl rfl (enters_of Tryz.func10 (by kernel_rfl) rfl) (cp.mono ?_)
  rintro _ w3 ⟨rfl, tn⟩
  refine ⟨_, rfl, ?_⟩
  obtain ⟨F3, d3⟩ := HDD.out.prog tn
  have HD3 : Hid (DX W0 w3 sb qb st st F3 G ((g, og) :: (ob, (.cells (opc kind a t.length c k) 49 (0, 0))) :: E0)) := d3
  refine hK.out _ _ (d3.at_ (List.mem_cons_of_mem _ (List.mem_cons_self ..))) (fun hS => ?_)
  clear hK K cp tn d3 HDD
  try simp only [Act.put, List.setIfInBounds_toArray, List.set_cons_zero, List.set_cons_succ]
  refine wpAnyH_ready (rs := [10]) (by kernel_rfl) (by simp) ?_
  refine AllReadyH.cons (by simp only [List.getElem?_toArray, List.getElem?_cons_zero, List.getElem?_cons_succ]; rfl) (fun K hK => ?_) AllReadyH.nil
  have cq := rb_accept_no w3 W0.heap.size qb st G HD3.out.rb (HX.out.2.2.2.2.2.2.2.1 _ HD3.out.low) a b off c t (HX.out.2.2.2.1.below HD3.out.low) HX.out.2.2.2.2.2.1 (by omega) k HX.out.2.2.2.2.2.2.1 HCS.out
  refine r_call3 41 _ _ _ #[42, 26, 31] rfl (by kernel_rfl) (.pointer (some ⟨qb, 0, none⟩)) (.slice a t.length c) (.agg (hA k)) rfl rfl rfl (enters_of Tryz.func41 (by kernel_rfl) rfl) (cq.mono ?_)
  rintro _ w4 ⟨rfl, tn⟩
  refine ⟨_, rfl, ?_⟩
  obtain ⟨G4, d4⟩ := HD3.out.ref tn
  have HD4 : Hid (DX W0 w4 sb qb st st F3 G4 ((g, og) :: (ob, (.cells (opc kind a t.length c k) 49 (0, 0))) :: E0)) := d4
  refine hK.out _ _ (d4.at_ (List.mem_cons_of_mem _ (List.mem_cons_self ..))) (fun hS => ?_)
  clear hK K cq tn d4 HD3
  try simp only [Act.put, List.setIfInBounds_toArray, List.set_cons_zero, List.set_cons_succ]
  refine wpAnyH_take (i := 11) (v := (.bool true)) (by simp only [List.getElem?_toArray, List.getElem?_cons_zero, List.getElem?_cons_succ]; rfl) (by kernel_rfl) (by kernel_rfl) (by kernel_rfl) (by exact fun _ _ _ h => h) (y_eqlB (by kernel_rfl) _ _ rfl false rfl rfl) hS ?_
  try simp only [Act.put, List.setIfInBounds_toArray, List.set_cons_zero, List.set_cons_succ]
  refine wpAnyH_take (i := 12) (v := (.bool true)) (by simp only [List.getElem?_toArray, List.getElem?_cons_zero, List.getElem?_cons_succ]; rfl) (by kernel_rfl) (by kernel_rfl) (by kernel_rfl) (by exact fun _ _ _ h => h) (y_assign (by kernel_rfl) _ rfl _ rfl) hS ?_
  try simp only [Act.put, List.setIfInBounds_toArray, List.set_cons_zero, List.set_cons_succ]
  refine wpAnyH_done (by kernel_rfl) ?_ _
  clear hS
  obtain ⟨s4, es4⟩ : ∃ s4 : Bst, s4 = st := ⟨_, rfl⟩
  rw [← es4] at HD4
  have HB4 : Hid (Bd s4 (N + 1)) := by rw [es4]; exact HX.out.2.1.mono (by omega)
  clear es4
  have HKD := hid_of HKD.out.1
  have wh := whole_any4 w4 (fun i => i = g) g cap t (HSD.out _ (HD4.out.at_ (List.mem_cons_self ..))) a b off c (HX.out.2.2.2.1.below HD4.out.low)
  have c1 := (opc_cells (HD4.out.at_ (List.mem_cons_of_mem _ (List.mem_cons_self ..)))).2.1
  go_wp2_with fail
  refine wh.mono ?_
  rintro _ w5 ⟨rfl, q5, hw5⟩
  have d5 := HD4.out.below (by rw [hw5]; exact below_drewN (Below.refl _ _) q5 : Below w4.heap.size w4 w5)
  have HD5 : Hid (DX W0 w5 sb qb s4 s4 F3 G4 ((g, og) :: (ob, (.cells (opc kind a t.length c k) 49 (0, 0))) :: E0)) := d5
  have c0 := (opc_cells (d5.at_ (List.mem_cons_of_mem _ (List.mem_cons_self ..)))).1
  have c1 := (opc_cells (d5.at_ (List.mem_cons_of_mem _ (List.mem_cons_self ..)))).2.1
  clear wh hw5 d5 HD4
  rw [HKD.out] at c0
  by_cases h0 : 0 < t.length
  · skip
    have i1 : (0 : Int) < (t.length : Int) := by omega
    have sm := smudge_any4 w5 (fun i => i = g) g cap t (str_pre (HSD.out _ (HD5.out.at_ (List.mem_cons_self ..)))) 99 (by decide) (by omega)
    rw [show ((99 : Nat) : Int) = 99 from rfl] at sm
    go_wp2_with fail
    refine sm.mono ?_
    rintro _ w9 ⟨rfl, t9⟩
    have l9 : g < w9.heap.size := Nat.lt_of_lt_of_le (Array.getElem?_eq_some_iff.1 (HD5.out.at_ (List.mem_cons_self ..))).1 t9.size
    have d9 := HD5.out.write HG.out.1 (fun p hp => (List.mem_cons.1 hp).elim (fun e => by rw [e]; exact HG.out.2.1) (HG.out.2.2.2 p)) t9 (Array.getElem?_eq_getElem l9)
    have HD9 : Hid (DX W0 w9 sb qb s4 s4 F3 G4 E0) := d9.drop (fun p hp => List.mem_cons_of_mem _ (List.mem_cons_of_mem _ hp))
    clear t9 l9 d9 sm HD5
    go_wp2_with fail
    go_ret
    exact ⟨rfl, s4, F3, G4, HB4.out.mono (by omega), HD9.out⟩
  · skip
    have i1 : ¬ (0 : Int) < (t.length : Int) := by omega
    have sm := smudge_any4 w5 (fun i => i = g) g cap t (str_pre (HSD.out _ (HD5.out.at_ (List.mem_cons_self ..)))) 99 (by decide) (by omega)
    rw [show ((99 : Nat) : Int) = 99 from rfl] at sm
    go_wp2_with fail
    refine sm.mono ?_
    rintro _ w9 ⟨rfl, t9⟩
    have l9 : g < w9.heap.size := Nat.lt_of_lt_of_le (Array.getElem?_eq_some_iff.1 (HD5.out.at_ (List.mem_cons_self ..))).1 t9.size
    have d9 := HD5.out.write HG.out.1 (fun p hp => (List.mem_cons.1 hp).elim (fun e => by rw [e]; exact HG.out.2.1) (HG.out.2.2.2 p)) t9 (Array.getElem?_eq_getElem l9)
    have HD9 : Hid (DX W0 w9 sb qb s4 s4 F3 G4 E0) := d9.drop (fun p hp => List.mem_cons_of_mem _ (List.mem_cons_of_mem _ hp))
    clear t9 l9 d9 sm HD5
    go_wp2_with fail
    go_ret
    exact ⟨rfl, s4, F3, G4, HB4.out.mono (by omega), HD9.out⟩
set_option maxRecDepth 100000 in
set_option maxHeartbeats 6400000 in
theorem step_three_own (W0 w : World) (sb qb : Nat) (st : Bst) (F G : Nat → Prop) (N : Nat) (E0 : List (Nat × Obj)) (h : DX W0 w sb qb st st F G E0) (hGr : Gr W0) (hB : Bd st N) (hN : N ≤ 900) (kind : Int) (a : Option Addr) (b off c : Nat) (t : List Nat) (ht : Vw W0 a b off t) (hc : t.length ≤ c) (hnil : a = none → c = 0) (hs : t.length ≤ 140737488351232) (k : List Nat) (hk : IsH k) (hkind : kind = 3 ∧ kc st.cbits st.S t = k ∧ t ∈ st.LC) :
    Calls Tryz.prog 20 #[(.pointer (some ⟨sb, 0, none⟩)), (.pointer (some ⟨qb, 0, none⟩)), .agg (opc kind a t.length c k)] w fun e w' => e = .returned (.bool true) ∧ ∃ st' F' G', Bd st' (N + 2) ∧ DX W0 w' sb qb st' st' F' G' E0 := by
  have HKD := hid_of hkind
  clear hkind
  have d1 : DX W0 (w.alloc (.cells (opc kind a t.length c k) 49)) sb qb st st F G ((w.heap.size, (.cells (opc kind a t.length c k) 49 (0, 0))) :: E0) := h.more ((Below.refl _ _).alloc (Nat.le_refl _) _) (Nat.le_refl _) (heap_alloc_new _ _)
  obtain ⟨W1, hW1⟩ : ∃ W1, W1 = w.alloc (.cells (opc kind a t.length c k) 49) := ⟨_, rfl⟩
  obtain ⟨ob, hob⟩ : ∃ ob, ob = w.heap.size := ⟨_, rfl⟩
  rw [← hW1, ← hob] at d1
  have HX : Hid (Gr W0 ∧ Bd st N ∧ N ≤ 900 ∧ Vw W0 a b off t ∧ t.length ≤ c ∧ (a = none → c = 0) ∧ IsH k ∧ (∀ v, Below W0.heap.size W0 v → Gr v) ∧ 2 < W0.heap.size ∧ t.length ≤ 140737488351232) := ⟨hGr, hB, hN, ht, hc, hnil, hk, fun v hv => hGr.below hv, hGr.g.big, hs⟩
  have HFB : Hid (∀ (v : World) (s1 s2 : Bst) (F' G' : Nat → Prop) (E : List (Nat × Obj)), DX W0 v sb qb s1 s2 F' G' E → 0 < t.length → ¬ F' b) := fun v s1 s2 F' G' E d h0 z => by
    have h1 := ht.lt h0
    have h2 := (d.bk.lim b z).1
    omega
  have HW : Hid (W0.heap.size ≤ ob ∧ ob < W1.heap.size) := ⟨by rw [hob]; exact h.low.size, (Array.getElem?_eq_some_iff.1 (d1.at_ (List.mem_cons_self ..))).1⟩
  have rm := roomy_any4 W1 a b off c t (ht.below d1.low) hnil (by omega)
  have c1 := (opc_cells (d1.at_ (List.mem_cons_self ..))).2.1
  have HD1 : Hid (DX W0 W1 sb qb st st F G ((ob, (.cells (opc kind a t.length c k) 49 (0, 0))) :: E0)) := d1
  clear h hGr hB hN ht hc hnil hk d1
  go_enter Tryz.func20, Tryz.ntmps20
  go_upto_region 1 with fail
  rw [← hW1, ← hob]
  clear hW1 hob
  go_wp2_with fail
  refine rm.mono ?_
  rintro _ w2 ⟨g, cap, rfl, sd, hg, b2⟩
  obtain ⟨og, hog⟩ := str_obj sd
  have d2 := HD1.out.more b2 hg hog
  have HG : Hid (W0.heap.size ≤ g ∧ ob ≠ g ∧ W0.heap.size ≤ ob ∧ ∀ p ∈ E0, p.1 ≠ g) := by
    have := HW.out
    refine ⟨by omega, by omega, this.1, fun p hp => ?_⟩
    have h1 := (Array.getElem?_eq_some_iff.1 (HD1.out.e p (List.mem_cons_of_mem _ hp)).1).1
    omega
  have HSD : Hid (∀ v : World, v.heap[g]? = some og → Str v (fun i => i = g) (.slice (some ⟨g, 0, none⟩) (t ++ mks).length cap) (t ++ mks)) := fun v hv => str_at sd (hv.trans hog.symm)
  have HCP : Hid (t.length ≤ cap) := by have := (own_row sd.own).2.1; rw [List.length_append] at this; show t.length ≤ cap; omega
  have HD2 : Hid (DX W0 w2 sb qb st st F G ((g, og) :: (ob, (.cells (opc kind a t.length c k) 49 (0, 0))) :: E0)) := d2
  have c0 := (opc_cells (d2.at_ (List.mem_cons_of_mem _ (List.mem_cons_self ..)))).1
  clear rm c1 sd hg b2 hog d2 HD1 HW
  rw [HKD.out.1] at c0
  have HCS := hid_of HKD.out.2
  go_wp2_with fail
  have d2d := HD2.out.below ((Turn.drew (F := fun _ => False) w2).below (fun _ f => f.elim) (Nat.le_refl _) : Below w2.heap.size w2 w2.drew)
  have s0 : (fun v => v.heap[ob]? = some (.cells (opc kind a t.length c k) 49 (0, 0))) w2.drew := d2d.at_ (List.mem_cons_of_mem _ (List.mem_cons_self ..))
  have HDD : Hid (DX W0 w2.drew sb qb st st F G ((g, og) :: (ob, (.cells (opc kind a t.length c k) 49 (0, 0))) :: E0)) := d2d
  refine wp_region_held_drew (S := fun v => v.heap[ob]? = some (.cells (opc kind a t.length c k) 49 (0, 0))) (by kernel_rfl) s0 ?_
  intro hS
  clear s0 d2d HD2 c0
  change wpAnyH _ _ _ _ _ 13 _ _ _
  generalize w2.drew = wd at hS HDD ⊢
  refine wpAnyH_take (i := 0) (v := (.pointer (some ⟨sb, 0, none⟩))) (by simp only [List.getElem?_toArray, List.getElem?_cons_zero]; rfl) (by kernel_rfl) (by kernel_rfl) (by kernel_rfl) (by exact fun _ _ _ h => h) (y_move (by kernel_rfl) _ rfl _ rfl) hS ?_
  try simp only [Act.put, List.setIfInBounds_toArray, List.set_cons_zero, List.set_cons_succ]
  refine wpAnyH_take (i := 1) (v := (.slice (some ⟨g, 0, none⟩) t.length cap)) (by simp only [List.getElem?_toArray, List.getElem?_cons_zero, List.getElem?_cons_succ]; rfl) (by kernel_rfl) (by kernel_rfl) (by kernel_rfl) (by exact fun _ _ _ h => h) (y_move (by kernel_rfl) _ rfl _ rfl) hS ?_
  try simp only [Act.put, List.setIfInBounds_toArray, List.set_cons_zero, List.set_cons_succ]
  refine wpAnyH_take (i := 2) (v := (.pointer (some ⟨ob, 0 + 2, none⟩))) (by simp only [List.getElem?_toArray, List.getElem?_cons_zero, List.getElem?_cons_succ]; rfl) (by kernel_rfl) (by kernel_rfl) (by kernel_rfl) (by exact fun _ _ _ h => h) (y_fieldO (by kernel_rfl) _ 2 rfl ob 0 rfl (by decide)) hS ?_
  try simp only [Act.put, List.setIfInBounds_toArray, List.set_cons_zero, List.set_cons_succ]
  refine wpAnyH_take (i := 3) (v := (.agg (hA k))) (by simp only [List.getElem?_toArray, List.getElem?_cons_zero, List.getElem?_cons_succ]; rfl) (by kernel_rfl) (by kernel_rfl) (by kernel_rfl) (by exact fun _ _ _ h => h) (yieldsIf_load_mid (by kernel_rfl) _ _ rfl ob (0 + 2) rfl _ _ (fun v hs => (opc_cells hs).2.2) Tryz.underlying31 rfl (hL_len HX.out.2.2.2.2.2.2.1)) hS ?_
  try simp only [Act.put, List.setIfInBounds_toArray, List.set_cons_zero, List.set_cons_succ]
  refine wpAnyH_take (i := 5) (v := (.pointer (some ⟨qb, 0, none⟩))) (by simp only [List.getElem?_toArray, List.getElem?_cons_zero, List.getElem?_cons_succ]; rfl) (by kernel_rfl) (by kernel_rfl) (by kernel_rfl) (by exact fun _ _ _ h => h) (y_move (by kernel_rfl) _ rfl _ rfl) hS ?_
  try simp only [Act.put, List.setIfInBounds_toArray, List.set_cons_zero, List.set_cons_succ]
  refine wpAnyH_take (i := 6) (v := (.pointer (some ⟨ob, 0 + 1, none⟩))) (by simp only [List.getElem?_toArray, List.getElem?_cons_zero, List.getElem?_cons_succ]; rfl) (by kernel_rfl) (by kernel_rfl) (by kernel_rfl) (by exact fun _ _ _ h => h) (y_fieldO (by kernel_rfl) _ 1 rfl ob 0 rfl (by decide)) hS ?_
  try simp only [Act.put, List.setIfInBounds_toArray, List.set_cons_zero, List.set_cons_succ]
  refine wpAnyH_take (i := 7) (v := (.slice a t.length c)) (by simp only [List.getElem?_toArray, List.getElem?_cons_zero, List.getElem?_cons_succ]; rfl) (by kernel_rfl) (by kernel_rfl) (by kernel_rfl) (by exact fun _ _ _ h => h) (y_loadB (by kernel_rfl) _ rfl ob (0 + 1) rfl _ (fun v hs => (opc_cells hs).2.1)) hS ?_
  try simp only [Act.put, List.setIfInBounds_toArray, List.set_cons_zero, List.set_cons_succ]
  refine wpAnyH_take (i := 8) (v := (.pointer (some ⟨ob, 0 + 2, none⟩))) (by simp only [List.getElem?_toArray, List.getElem?_cons_zero, List.getElem?_cons_succ]; rfl) (by kernel_rfl) (by kernel_rfl) (by kernel_rfl) (by exact fun _ _ _ h => h) (y_fieldO (by kernel_rfl) _ 2 rfl ob 0 rfl (by decide)) hS ?_
  try simp only [Act.put, List.setIfInBounds_toArray, List.set_cons_zero, List.set_cons_succ]
  refine wpAnyH_take (i := 9) (v := (.agg (hA k))) (by simp only [List.getElem?_toArray, List.getElem?_cons_zero, List.getElem?_cons_succ]; rfl) (by kernel_rfl) (by kernel_rfl) (by kernel_rfl) (by exact fun _ _ _ h => h) (yieldsIf_load_mid (by kernel_rfl) _ _ rfl ob (0 + 2) rfl _ _ (fun v hs => (opc_cells hs).2.2) Tryz.underlying31 rfl (hL_len HX.out.2.2.2.2.2.2.1)) hS ?_
  try simp only [Act.put, List.setIfInBounds_toArray, List.set_cons_zero, List.set_cons_succ]
  refine wpAnyH_ready (rs := [4]) (by kernel_rfl) (by simp) ?_
  refine AllReadyH.cons (by simp only [List.getElem?_toArray, List.getElem?_cons_zero, List.getElem?_cons_succ]; rfl) (fun K hK => ?_) AllReadyH.nil
  have cp := accept_own wd W0.heap.size sb st F HDD.out.bk (HX.out.2.2.2.2.2.2.2.1 _ HDD.out.low).g HX.out.2.2.2.2.2.2.2.2.1 (by have := HX.out.2.1.c; have := HX.out.2.2.1; omega) (some ⟨g, 0, none⟩) g 0 cap t (vwd_of (HSD.out wd) (HDD.out.at_ (List.mem_cons_self ..))) HCP.out (fun _ => HDD.out.off (List.mem_cons_self ..)) k HX.out.2.2.2.2.2.2.1 HCS.out.1.symm HCS.out.2
  refine r_call3 10 _ _ _ #[22, 26, 31] rfl (by kernel_rfl) (.pointer (some ⟨sb, 0, none⟩)) (.slice (some ⟨g, 0, none⟩) t.length cap) (.agg (hA k)) rfl rfl rfl (enters_of Tryz.func10 (by kernel_rfl) rfl) (cp.mono ?_)
  rintro _ w3 ⟨rfl, tn⟩
  refine ⟨_, rfl, ?_⟩
  obtain ⟨F3, d3⟩ := HDD.out.prog tn
  have HD3 : Hid (DX W0 w3 sb qb st st F3 G ((g, og) :: (ob, (.cells (opc kind a t.length c k) 49 (0, 0))) :: E0)) := d3
  refine hK.out _ _ (d3.at_ (List.mem_cons_of_mem _ (List.mem_cons_self ..))) (fun hS => ?_)
  clear hK K cp tn d3 HDD
  try simp only [Act.put, List.setIfInBounds_toArray, List.set_cons_zero, List.set_cons_succ]
  refine wpAnyH_ready (rs := [10]) (by kernel_rfl) (by simp) ?_
  refine AllReadyH.cons (by simp only [List.getElem?_toArray, List.getElem?_cons_zero, List.getElem?_cons_succ]; rfl) (fun K hK => ?_) AllReadyH.nil
  have cq := rb_accept_own w3 W0.heap.size qb st G HD3.out.rb (HX.out.2.2.2.2.2.2.2.1 _ HD3.out.low) a b off c t (HX.out.2.2.2.1.below HD3.out.low) HX.out.2.2.2.2.2.1 (by omega) k HX.out.2.2.2.2.2.2.1 HCS.out.1 HCS.out.2 (by have := HX.out.2.1.c; have := HX.out.2.2.1; omega)
  refine r_call3 41 _ _ _ #[42, 26, 31] rfl (by kernel_rfl) (.pointer (some ⟨qb, 0, none⟩)) (.slice a t.length c) (.agg (hA k)) rfl rfl rfl (enters_of Tryz.func41 (by kernel_rfl) rfl) (cq.mono ?_)
  rintro _ w4 ⟨rfl, tn⟩
  refine ⟨_, rfl, ?_⟩
  obtain ⟨G4, d4⟩ := HD3.out.ref tn
  have HD4 : Hid (DX W0 w4 sb qb st st F3 G4 ((g, og) :: (ob, (.cells (opc kind a t.length c k) 49 (0, 0))) :: E0)) := d4
  refine hK.out _ _ (d4.at_ (List.mem_cons_of_mem _ (List.mem_cons_self ..))) (fun hS => ?_)
  clear hK K cq tn d4 HD3
  try simp only [Act.put, List.setIfInBounds_toArray, List.set_cons_zero, List.set_cons_succ]
  refine wpAnyH_take (i := 11) (v := (.bool true)) (by simp only [List.getElem?_toArray, List.getElem?_cons_zero, List.getElem?_cons_succ]; rfl) (by kernel_rfl) (by kernel_rfl) (by kernel_rfl) (by exact fun _ _ _ h => h) (y_eqlB (by kernel_rfl) _ _ rfl true rfl rfl) hS ?_
  try simp only [Act.put, List.setIfInBounds_toArray, List.set_cons_zero, List.set_cons_succ]
  refine wpAnyH_take (i := 12) (v := (.bool true)) (by simp only [List.getElem?_toArray, List.getElem?_cons_zero, List.getElem?_cons_succ]; rfl) (by kernel_rfl) (by kernel_rfl) (by kernel_rfl) (by exact fun _ _ _ h => h) (y_assign (by kernel_rfl) _ rfl _ rfl) hS ?_
  try simp only [Act.put, List.setIfInBounds_toArray, List.set_cons_zero, List.set_cons_succ]
  refine wpAnyH_done (by kernel_rfl) ?_ _
  clear hS
  obtain ⟨s4, es4⟩ : ∃ s4 : Bst, s4 = st := ⟨_, rfl⟩
  rw [← es4] at HD4
  have HB4 : Hid (Bd s4 (N + 1)) := by rw [es4]; exact HX.out.2.1.mono (by omega)
  clear es4
  have HKD := hid_of HKD.out.1
  have wh := whole_any4 w4 (fun i => i = g) g cap t (HSD.out _ (HD4.out.at_ (List.mem_cons_self ..))) a b off c (HX.out.2.2.2.1.below HD4.out.low)
  have c1 := (opc_cells (HD4.out.at_ (List.mem_cons_of_mem _ (List.mem_cons_self ..)))).2.1
  go_wp2_with fail
  refine wh.mono ?_
  rintro _ w5 ⟨rfl, q5, hw5⟩
  have d5 := HD4.out.below (by rw [hw5]; exact below_drewN (Below.refl _ _) q5 : Below w4.heap.size w4 w5)
  have HD5 : Hid (DX W0 w5 sb qb s4 s4 F3 G4 ((g, og) :: (ob, (.cells (opc kind a t.length c k) 49 (0, 0))) :: E0)) := d5
  have c0 := (opc_cells (d5.at_ (List.mem_cons_of_mem _ (List.mem_cons_self ..)))).1
  have c1 := (opc_cells (d5.at_ (List.mem_cons_of_mem _ (List.mem_cons_self ..)))).2.1
  clear wh hw5 d5 HD4
  rw [HKD.out] at c0
  by_cases h0 : 0 < t.length
  · skip
    have i1 : (0 : Int) < (t.length : Int) := by omega
    have sm := smudge_any4 w5 (fun i => i = g) g cap t (str_pre (HSD.out _ (HD5.out.at_ (List.mem_cons_self ..)))) 99 (by decide) (by omega)
    rw [show ((99 : Nat) : Int) = 99 from rfl] at sm
    go_wp2_with fail
    refine sm.mono ?_
    rintro _ w9 ⟨rfl, t9⟩
    have l9 : g < w9.heap.size := Nat.lt_of_lt_of_le (Array.getElem?_eq_some_iff.1 (HD5.out.at_ (List.mem_cons_self ..))).1 t9.size
    have d9 := HD5.out.write HG.out.1 (fun p hp => (List.mem_cons.1 hp).elim (fun e => by rw [e]; exact HG.out.2.1) (HG.out.2.2.2 p)) t9 (Array.getElem?_eq_getElem l9)
    have HD9 : Hid (DX W0 w9 sb qb s4 s4 F3 G4 E0) := d9.drop (fun p hp => List.mem_cons_of_mem _ (List.mem_cons_of_mem _ hp))
    clear t9 l9 d9 sm HD5
    go_wp2_with fail
    go_ret
    exact ⟨rfl, s4, F3, G4, HB4.out.mono (by omega), HD9.out⟩
  · skip
    have i1 : ¬ (0 : Int) < (t.length : Int) := by omega
    have sm := smudge_any4 w5 (fun i => i = g) g cap t (str_pre (HSD.out _ (HD5.out.at_ (List.mem_cons_self ..)))) 99 (by decide) (by omega)
    rw [show ((99 : Nat) : Int) = 99 from rfl] at sm
    go_wp2_with fail
    refine sm.mono ?_
    rintro _ w9 ⟨rfl, t9⟩
    have l9 : g < w9.heap.size := Nat.lt_of_lt_of_le (Array.getElem?_eq_some_iff.1 (HD5.out.at_ (List.mem_cons_self ..))).1 t9.size
    have d9 := HD5.out.write HG.out.1 (fun p hp => (List.mem_cons.1 hp).elim (fun e => by rw [e]; exact HG.out.2.1) (HG.out.2.2.2 p)) t9 (Array.getElem?_eq_getElem l9)
    have HD9 : Hid (DX W0 w9 sb qb s4 s4 F3 G4 E0) := d9.drop (fun p hp => List.mem_cons_of_mem _ (List.mem_cons_of_mem _ hp))
    clear t9 l9 d9 sm HD5
    go_wp2_with fail
    go_ret
    exact ⟨rfl, s4, F3, G4, HB4.out.mono (by omega), HD9.out⟩
set_option maxRecDepth 100000 in
set_option maxHeartbeats 6400000 in
theorem step_three_forge (W0 w : World) (sb qb : Nat) (st : Bst) (F G : Nat → Prop) (N : Nat) (E0 : List (Nat × Obj)) (h : DX W0 w sb qb st st F G E0) (hGr : Gr W0) (hB : Bd st N) (hN : N ≤ 900) (kind : Int) (a : Option Addr) (b off c : Nat) (t : List Nat) (ht : Vw W0 a b off t) (hc : t.length ≤ c) (hnil : a = none → c = 0) (hs : t.length ≤ 140737488351232) (k : List Nat) (hk : IsH k) (hkind : kind = 3 ∧ kc st.cbits st.S t = k ∧ t ∉ st.LC) :
    Calls Tryz.prog 20 #[(.pointer (some ⟨sb, 0, none⟩)), (.pointer (some ⟨qb, 0, none⟩)), .agg (opc kind a t.length c k)] w fun e w' => e = .returned (.bool true) ∧ ∃ st' F' G', Bd st' (N + 2) ∧ DX W0 w' sb qb st' st' F' G' E0 := by
  have HKD := hid_of hkind
  clear hkind
  have d1 : DX W0 (w.alloc (.cells (opc kind a t.length c k) 49)) sb qb st st F G ((w.heap.size, (.cells (opc kind a t.length c k) 49 (0, 0))) :: E0) := h.more ((Below.refl _ _).alloc (Nat.le_refl _) _) (Nat.le_refl _) (heap_alloc_new _ _)
  obtain ⟨W1, hW1⟩ : ∃ W1, W1 = w.alloc (.cells (opc kind a t.length c k) 49) := ⟨_, rfl⟩
  obtain ⟨ob, hob⟩ : ∃ ob, ob = w.heap.size := ⟨_, rfl⟩
  rw [← hW1, ← hob] at d1
  have HX : Hid (Gr W0 ∧ Bd st N ∧ N ≤ 900 ∧ Vw W0 a b off t ∧ t.length ≤ c ∧ (a = none → c = 0) ∧ IsH k ∧ (∀ v, Below W0.heap.size W0 v → Gr v) ∧ 2 < W0.heap.size ∧ t.length ≤ 140737488351232) := ⟨hGr, hB, hN, ht, hc, hnil, hk, fun v hv => hGr.below hv, hGr.g.big, hs⟩
  have HFB : Hid (∀ (v : World) (s1 s2 : Bst) (F' G' : Nat → Prop) (E : List (Nat × Obj)), DX W0 v sb qb s1 s2 F' G' E → 0 < t.length → ¬ F' b) := fun v s1 s2 F' G' E d h0 z => by
    have h1 := ht.lt h0
    have h2 := (d.bk.lim b z).1
    omega
  have HW : Hid (W0.heap.size ≤ ob ∧ ob < W1.heap.size) := ⟨by rw [hob]; exact h.low.size, (Array.getElem?_eq_some_iff.1 (d1.at_ (List.mem_cons_self ..))).1⟩
  have rm := roomy_any4 W1 a b off c t (ht.below d1.low) hnil (by omega)
  have c1 := (opc_cells (d1.at_ (List.mem_cons_self ..))).2.1
  have HD1 : Hid (DX W0 W1 sb qb st st F G ((ob, (.cells (opc kind a t.length c k) 49 (0, 0))) :: E0)) := d1
  clear h hGr hB hN ht hc hnil hk d1
  go_enter Tryz.func20, Tryz.ntmps20
  go_upto_region 1 with fail
  rw [← hW1, ← hob]
  clear hW1 hob
  go_wp2_with fail
  refine rm.mono ?_
  rintro _ w2 ⟨g, cap, rfl, sd, hg, b2⟩
  obtain ⟨og, hog⟩ := str_obj sd
  have d2 := HD1.out.more b2 hg hog
  have HG : Hid (W0.heap.size ≤ g ∧ ob ≠ g ∧ W0.heap.size ≤ ob ∧ ∀ p ∈ E0, p.1 ≠ g) := by
    have := HW.out
    refine ⟨by omega, by omega, this.1, fun p hp => ?_⟩
    have h1 := (Array.getElem?_eq_some_iff.1 (HD1.out.e p (List.mem_cons_of_mem _ hp)).1).1
    omega
  have HSD : Hid (∀ v : World, v.heap[g]? = some og → Str v (fun i => i = g) (.slice (some ⟨g, 0, none⟩) (t ++ mks).length cap) (t ++ mks)) := fun v hv => str_at sd (hv.trans hog.symm)
  have HCP : Hid (t.length ≤ cap) := by have := (own_row sd.own).2.1; rw [List.length_append] at this; show t.length ≤ cap; omega
  have HD2 : Hid (DX W0 w2 sb qb st st F G ((g, og) :: (ob, (.cells (opc kind a t.length c k) 49 (0, 0))) :: E0)) := d2
  have c0 := (opc_cells (d2.at_ (List.mem_cons_of_mem _ (List.mem_cons_self ..)))).1
  clear rm c1 sd hg b2 hog d2 HD1 HW
  rw [HKD.out.1] at c0
  have HCS := hid_of HKD.out.2
  go_wp2_with fail
  have d2d := HD2.out.below ((Turn.drew (F := fun _ => False) w2).below (fun _ f => f.elim) (Nat.le_refl _) : Below w2.heap.size w2 w2.drew)
  have s0 : (fun v => v.heap[ob]? = some (.cells (opc kind a t.length c k) 49 (0, 0))) w2.drew := d2d.at_ (List.mem_cons_of_mem _ (List.mem_cons_self ..))
  have HDD : Hid (DX W0 w2.drew sb qb st st F G ((g, og) :: (ob, (.cells (opc kind a t.length c k) 49 (0, 0))) :: E0)) := d2d
  refine wp_region_held_drew (S := fun v => v.heap[ob]? = some (.cells (opc kind a t.length c k) 49 (0, 0))) (by kernel_rfl) s0 ?_
  intro hS
  clear s0 d2d HD2 c0
  change wpAnyH _ _ _ _ _ 13 _ _ _
  generalize w2.drew = wd at hS HDD ⊢
  refine wpAnyH_take (i := 0) (v := (.pointer (some ⟨sb, 0, none⟩))) (by simp only [List.getElem?_toArray, List.getElem?_cons_zero]; rfl) (by kernel_rfl) (by kernel_rfl) (by kernel_rfl) (by exact fun _ _ _ h => h) (y_move (by kernel_rfl) _ rfl _ rfl) hS ?_
  try simp only [Act.put, List.setIfInBounds_toArray, List.set_cons_zero, List.set_cons_succ]
  refine wpAnyH_take (i := 1) (v := (.slice (some ⟨g, 0, none⟩) t.length cap)) (by simp only [List.getElem?_toArray, List.getElem?_cons_zero, List.getElem?_cons_succ]; rfl) (by kernel_rfl) (by kernel_rfl) (by kernel_rfl) (by exact fun _ _ _ h => h) (y_move (by kernel_rfl) _ rfl _ rfl) hS ?_
  try simp only [Act.put, List.setIfInBounds_toArray, List.set_cons_zero, List.set_cons_succ]
  refine wpAnyH_take (i := 2) (v := (.pointer (some ⟨ob, 0 + 2, none⟩))) (by simp only [List.getElem?_toArray, List.getElem?_cons_zero, List.getElem?_cons_succ]; rfl) (by kernel_rfl) (by kernel_rfl) (by kernel_rfl) (by exact fun _ _ _ h => h) (y_fieldO (by kernel_rfl) _ 2 rfl ob 0 rfl (by decide)) hS ?_
  try simp only [Act.put, List.setIfInBounds_toArray, List.set_cons_zero, List.set_cons_succ]
  refine wpAnyH_take (i := 3) (v := (.agg (hA k))) (by simp only [List.getElem?_toArray, List.getElem?_cons_zero, List.getElem?_cons_succ]; rfl) (by kernel_rfl) (by kernel_rfl) (by kernel_rfl) (by exact fun _ _ _ h => h) (yieldsIf_load_mid (by kernel_rfl) _ _ rfl ob (0 + 2) rfl _ _ (fun v hs => (opc_cells hs).2.2) Tryz.underlying31 rfl (hL_len HX.out.2.2.2.2.2.2.1)) hS ?_
  try simp only [Act.put, List.setIfInBounds_toArray, List.set_cons_zero, List.set_cons_succ]
  refine wpAnyH_take (i := 5) (v := (.pointer (some ⟨qb, 0, none⟩))) (by simp only [List.getElem?_toArray, List.getElem?_cons_zero, List.getElem?_cons_succ]; rfl) (by kernel_rfl) (by kernel_rfl) (by kernel_rfl) (by exact fun _ _ _ h => h) (y_move (by kernel_rfl) _ rfl _ rfl) hS ?_
  try simp only [Act.put, List.setIfInBounds_toArray, List.set_cons_zero, List.set_cons_succ]
  refine wpAnyH_take (i := 6) (v := (.pointer (some ⟨ob, 0 + 1, none⟩))) (by simp only [List.getElem?_toArray, List.getElem?_cons_zero, List.getElem?_cons_succ]; rfl) (by kernel_rfl) (by kernel_rfl) (by kernel_rfl) (by exact fun _ _ _ h => h) (y_fieldO (by kernel_rfl) _ 1 rfl ob 0 rfl (by decide)) hS ?_
  try simp only [Act.put, List.setIfInBounds_toArray, List.set_cons_zero, List.set_cons_succ]
  refine wpAnyH_take (i := 7) (v := (.slice a t.length c)) (by simp only [List.getElem?_toArray, List.getElem?_cons_zero, List.getElem?_cons_succ]; rfl) (by kernel_rfl) (by kernel_rfl) (by kernel_rfl) (by exact fun _ _ _ h => h) (y_loadB (by kernel_rfl) _ rfl ob (0 + 1) rfl _ (fun v hs => (opc_cells hs).2.1)) hS ?_
  try simp only [Act.put, List.setIfInBounds_toArray, List.set_cons_zero, List.set_cons_succ]
  refine wpAnyH_take (i := 8) (v := (.pointer (some ⟨ob, 0 + 2, none⟩))) (by simp only [List.getElem?_toArray, List.getElem?_cons_zero, List.getElem?_cons_succ]; rfl) (by kernel_rfl) (by kernel_rfl) (by kernel_rfl) (by exact fun _ _ _ h => h) (y_fieldO (by kernel_rfl) _ 2 rfl ob 0 rfl (by decide)) hS ?_
  try simp only [Act.put, List.setIfInBounds_toArray, List.set_cons_zero, List.set_cons_succ]
  refine wpAnyH_take (i := 9) (v := (.agg (hA k))) (by simp only [List.getElem?_toArray, List.getElem?_cons_zero, List.getElem?_cons_succ]; rfl) (by kernel_rfl) (by kernel_rfl) (by kernel_rfl) (by exact fun _ _ _ h => h) (yieldsIf_load_mid (by kernel_rfl) _ _ rfl ob (0 + 2) rfl _ _ (fun v hs => (opc_cells hs).2.2) Tryz.underlying31 rfl (hL_len HX.out.2.2.2.2.2.2.1)) hS ?_
  try simp only [Act.put, List.setIfInBounds_toArray, List.set_cons_zero, List.set_cons_succ]
  refine wpAnyH_ready (rs := [4]) (by kernel_rfl) (by simp) ?_
  refine AllReadyH.cons (by simp only [List.getElem?_toArray, List.getElem?_cons_zero, List.getElem?_cons_succ]; rfl) (fun K hK => ?_) AllReadyH.nil
  have cp := accept_forge wd W0.heap.size sb st F HDD.out.bk (HX.out.2.2.2.2.2.2.2.1 _ HDD.out.low).g HX.out.2.2.2.2.2.2.2.2.1 (by have := HX.out.2.1.c; have := HX.out.2.2.1; omega) (by have := HX.out.2.1.f; have := HX.out.2.2.1; omega) (some ⟨g, 0, none⟩) g 0 cap t (vwd_of (HSD.out wd) (HDD.out.at_ (List.mem_cons_self ..))) HCP.out (by omega) (fun _ => HDD.out.off (List.mem_cons_self ..)) k HX.out.2.2.2.2.2.2.1 HCS.out.1.symm HCS.out.2
  refine r_call3 10 _ _ _ #[22, 26, 31] rfl (by kernel_rfl) (.pointer (some ⟨sb, 0, none⟩)) (.slice (some ⟨g, 0, none⟩) t.length cap) (.agg (hA k)) rfl rfl rfl (enters_of Tryz.func10 (by kernel_rfl) rfl) (cp.mono ?_)
  rintro _ w3 ⟨rfl, tn⟩
  refine ⟨_, rfl, ?_⟩
  obtain ⟨F3, d3⟩ := HDD.out.prog tn
  have HD3 : Hid (DX W0 w3 sb qb { st with LF := ins t st.LF } st F3 G ((g, og) :: (ob, (.cells (opc kind a t.length c k) 49 (0, 0))) :: E0)) := d3
  refine hK.out _ _ (d3.at_ (List.mem_cons_of_mem _ (List.mem_cons_self ..))) (fun hS => ?_)
  clear hK K cp tn d3 HDD
  try simp only [Act.put, List.setIfInBounds_toArray, List.set_cons_zero, List.set_cons_succ]
  refine wpAnyH_ready (rs := [10]) (by kernel_rfl) (by simp) ?_
  refine AllReadyH.cons (by simp only [List.getElem?_toArray, List.getElem?_cons_zero, List.getElem?_cons_succ]; rfl) (fun K hK => ?_) AllReadyH.nil
  have cq := rb_accept_forge w3 W0.heap.size qb st G HD3.out.rb (HX.out.2.2.2.2.2.2.2.1 _ HD3.out.low) a b off c t (HX.out.2.2.2.1.below HD3.out.low) HX.out.2.2.2.2.2.1 (by omega) k HX.out.2.2.2.2.2.2.1 HCS.out.1 HCS.out.2 (by have := HX.out.2.1.c; have := HX.out.2.2.1; omega) (by have := HX.out.2.1.f; have := HX.out.2.2.1; omega)
  refine r_call3 41 _ _ _ #[42, 26, 31] rfl (by kernel_rfl) (.pointer (some ⟨qb, 0, none⟩)) (.slice a t.length c) (.agg (hA k)) rfl rfl rfl (enters_of Tryz.func41 (by kernel_rfl) rfl) (cq.mono ?_)
  rintro _ w4 ⟨rfl, tn⟩
  refine ⟨_, rfl, ?_⟩
  obtain ⟨G4, d4⟩ := HD3.out.ref tn
  have HD4 : Hid (DX W0 w4 sb qb { st with LF := ins t st.LF } { st with LF := ins t st.LF } F3 G4 ((g, og) :: (ob, (.cells (opc kind a t.length c k) 49 (0, 0))) :: E0)) := d4
  refine hK.out _ _ (d4.at_ (List.mem_cons_of_mem _ (List.mem_cons_self ..))) (fun hS => ?_)
  clear hK K cq tn d4 HD3
  try simp only [Act.put, List.setIfInBounds_toArray, List.set_cons_zero, List.set_cons_succ]
  refine wpAnyH_take (i := 11) (v := (.bool true)) (by simp only [List.getElem?_toArray, List.getElem?_cons_zero, List.getElem?_cons_succ]; rfl) (by kernel_rfl) (by kernel_rfl) (by kernel_rfl) (by exact fun _ _ _ h => h) (y_eqlB (by kernel_rfl) _ _ rfl true rfl rfl) hS ?_
  try simp only [Act.put, List.setIfInBounds_toArray, List.set_cons_zero, List.set_cons_succ]
  refine wpAnyH_take (i := 12) (v := (.bool true)) (by simp only [List.getElem?_toArray, List.getElem?_cons_zero, List.getElem?_cons_succ]; rfl) (by kernel_rfl) (by kernel_rfl) (by kernel_rfl) (by exact fun _ _ _ h => h) (y_assign (by kernel_rfl) _ rfl _ rfl) hS ?_
  try simp only [Act.put, List.setIfInBounds_toArray, List.set_cons_zero, List.set_cons_succ]
  refine wpAnyH_done (by kernel_rfl) ?_ _
  clear hS
  obtain ⟨s4, es4⟩ : ∃ s4 : Bst, s4 = { st with LF := ins t st.LF } := ⟨_, rfl⟩
  rw [← es4] at HD4
  have HB4 : Hid (Bd s4 (N + 1)) := by rw [es4]; exact HX.out.2.1.insF HX.out.2.2.2.2.2.2.2.2.2
  clear es4
  have HKD := hid_of HKD.out.1
  have wh := whole_any4 w4 (fun i => i = g) g cap t (HSD.out _ (HD4.out.at_ (List.mem_cons_self ..))) a b off c (HX.out.2.2.2.1.below HD4.out.low)
  have c1 := (opc_cells (HD4.out.at_ (List.mem_cons_of_mem _ (List.mem_cons_self ..)))).2.1
  go_wp2_with fail
  refine wh.mono ?_
  rintro _ w5 ⟨rfl, q5, hw5⟩
  have d5 := HD4.out.below (by rw [hw5]; exact below_drewN (Below.refl _ _) q5 : Below w4.heap.size w4 w5)
  have HD5 : Hid (DX W0 w5 sb qb s4 s4 F3 G4 ((g, og) :: (ob, (.cells (opc kind a t.length c k) 49 (0, 0))) :: E0)) := d5
  have c0 := (opc_cells (d5.at_ (List.mem_cons_of_mem _ (List.mem_cons_self ..)))).1
  have c1 := (opc_cells (d5.at_ (List.mem_cons_of_mem _ (List.mem_cons_self ..)))).2.1
  clear wh hw5 d5 HD4
  rw [HKD.out] at c0
  by_cases h0 : 0 < t.length
  · skip
    have i1 : (0 : Int) < (t.length : Int) := by omega
    have sm := smudge_any4 w5 (fun i => i = g) g cap t (str_pre (HSD.out _ (HD5.out.at_ (List.mem_cons_self ..)))) 99 (by decide) (by omega)
    rw [show ((99 : Nat) : Int) = 99 from rfl] at sm
    go_wp2_with fail
    refine sm.mono ?_
    rintro _ w9 ⟨rfl, t9⟩
    have l9 : g < w9.heap.size := Nat.lt_of_lt_of_le (Array.getElem?_eq_some_iff.1 (HD5.out.at_ (List.mem_cons_self ..))).1 t9.size
    have d9 := HD5.out.write HG.out.1 (fun p hp => (List.mem_cons.1 hp).elim (fun e => by rw [e]; exact HG.out.2.1) (HG.out.2.2.2 p)) t9 (Array.getElem?_eq_getElem l9)
    have HD9 : Hid (DX W0 w9 sb qb s4 s4 F3 G4 E0) := d9.drop (fun p hp => List.mem_cons_of_mem _ (List.mem_cons_of_mem _ hp))
    clear t9 l9 d9 sm HD5
    go_wp2_with fail
    go_ret
    exact ⟨rfl, s4, F3, G4, HB4.out.mono (by omega), HD9.out⟩
  · skip
    have i1 : ¬ (0 : Int) < (t.length : Int) := by omega
    have sm := smudge_any4 w5 (fun i => i = g) g cap t (str_pre (HSD.out _ (HD5.out.at_ (List.mem_cons_self ..)))) 99 (by decide) (by omega)
    rw [show ((99 : Nat) : Int) = 99 from rfl] at sm
    go_wp2_with fail
    refine sm.mono ?_
    rintro _ w9 ⟨rfl, t9⟩
    have l9 : g < w9.heap.size := Nat.lt_of_lt_of_le (Array.getElem?_eq_some_iff.1 (HD5.out.at_ (List.mem_cons_self ..))).1 t9.size
    have d9 := HD5.out.write HG.out.1 (fun p hp => (List.mem_cons.1 hp).elim (fun e => by rw [e]; exact HG.out.2.1) (HG.out.2.2.2 p)) t9 (Array.getElem?_eq_getElem l9)
    have HD9 : Hid (DX W0 w9 sb qb s4 s4 F3 G4 E0) := d9.drop (fun p hp => List.mem_cons_of_mem _ (List.mem_cons_of_mem _ hp))
    clear t9 l9 d9 sm HD5
    go_wp2_with fail
    go_ret
    exact ⟨rfl, s4, F3, G4, HB4.out.mono (by omega), HD9.out⟩
end Go.Proofs.YtlhllbggnpcoaaaGreatDoor
