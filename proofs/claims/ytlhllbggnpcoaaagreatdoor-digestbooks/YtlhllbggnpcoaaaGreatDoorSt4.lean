import Derived.Test.YtlhllbggnpcoaaaGreatDoorSt1
import Derived.Test.YtlhllbggnpcoaaaGreatDoorSt3
/-
  cairnlaw04.step, of a code.
-/
namespace Go.Proofs.YtlhllbggnpcoaaaGreatDoor
open Go.RowKit Go.Sort Go.Maps

set_option maxRecDepth 100000 in
set_option maxHeartbeats 6400000 in
theorem step_two (W0 w : World) (sb qb : Nat) (st : Bst) (F G : Nat → Prop) (N : Nat) (E0 : List (Nat × Obj)) (h : DX W0 w sb qb st st F G E0) (hGr : Gr W0) (hB : Bd st N) (hN : N ≤ 900) (kind : Int) (hkind : kind = 2) (a : Option Addr) (b off c : Nat) (t : List Nat) (ht : Vw W0 a b off t) (hc : t.length ≤ c) (hnil : a = none → c = 0) (hs : t.length ≤ 140737488351232) (k : List Nat) (hk : IsH k) :
    Calls Tryz.prog 20 #[(.pointer (some ⟨sb, 0, none⟩)), (.pointer (some ⟨qb, 0, none⟩)), .agg (opc kind a t.length c k)] w fun e w' => e = .returned (.bool true) ∧ ∃ st' F' G', Bd st' (N + 2) ∧ DX W0 w' sb qb st' st' F' G' E0 := by
  have HKD := hid_of hkind
  clear hkind
  have d1 : DX W0 (w.alloc (.cells (opc kind a t.length c k) 49)) sb qb st st F G ((w.heap.size, (.cells (opc kind a t.length c k) 49 (0, 0))) :: E0) := h.more ((Below.refl _ _).alloc (Nat.le_refl _) _) (Nat.le_refl _) (heap_alloc_new _ _)
  obtain ⟨W1, hW1⟩ : ∃ W1, W1 = w.alloc (.cells (opc kind a t.length c k) 49) := ⟨_, rfl⟩
  obtain ⟨ob, hob⟩ : ∃ ob, ob = w.heap.size := ⟨_, rfl⟩
  rw [← hW1, ← hob] at d1
  have HX : Hid (Gr W0 ∧ Bd st N ∧ N ≤ 900 ∧ Vw W0 a b off t ∧ t.length ≤ c ∧ (a = none → c = 0) ∧ IsH k ∧ (∀ v, Below W0.heap.size W0 v → Gr v) ∧ 2 < W0.heap.size ∧ t.length ≤ 140737488351232) := ⟨hGr, hB, hN, ht, hc, hnil, hk, fun v hv => hGr.below hv, hGr.g.big, hs⟩
  have HFB : Hid (∀ (v : World) (s1 s2 : Bst) (F' G' : Nat → Prop) (E : List (Nat × Obj)), DX W0 v sb qb s1 s2 F' G' E → 0 < t.length → ¬ F' b) := fun v s1 s2 F' G' E d h0 z => by
    have h1 := ht.lt h0
    have h2 := (d.bk.lim b z).1
    omega
  have HW : Hid (W0.heap.size ≤ ob ∧ ob < W1.heap.size) := ⟨by rw [hob]; exact h.low.size, (Array.getElem?_eq_some_iff.1 (d1.at_ (List.mem_cons_self ..))).1⟩
  have rm := roomy_any4 W1 a b off c t (ht.below d1.low) hnil (by omega)
  have c1 := (opc_cells (d1.at_ (List.mem_cons_self ..))).2.1
  have HD1 : Hid (DX W0 W1 sb qb st st F G ((ob, (.cells (opc kind a t.length c k) 49 (0, 0))) :: E0)) := d1
  clear h hGr hB hN ht hc hnil hk d1
  go_enter Tryz.func20, Tryz.ntmps20
  go_upto_region 1 with fail
  rw [← hW1, ← hob]
  clear hW1 hob
  go_wp2_with fail
  refine rm.mono ?_
  rintro _ w2 ⟨g, cap, rfl, sd, hg, b2⟩
  obtain ⟨og, hog⟩ := str_obj sd
  have d2 := HD1.out.more b2 hg hog
  have HG : Hid (W0.heap.size ≤ g ∧ ob ≠ g ∧ W0.heap.size ≤ ob ∧ ∀ p ∈ E0, p.1 ≠ g) := by
    have := HW.out
    refine ⟨by omega, by omega, this.1, fun p hp => ?_⟩
    have h1 := (Array.getElem?_eq_some_iff.1 (HD1.out.e p (List.mem_cons_of_mem _ hp)).1).1
    omega
  have HSD : Hid (∀ v : World, v.heap[g]? = some og → Str v (fun i => i = g) (.slice (some ⟨g, 0, none⟩) (t ++ mks).length cap) (t ++ mks)) := fun v hv => str_at sd (hv.trans hog.symm)
  have HCP : Hid (t.length ≤ cap) := by have := (own_row sd.own).2.1; rw [List.length_append] at this; show t.length ≤ cap; omega
  have HD2 : Hid (DX W0 w2 sb qb st st F G ((g, og) :: (ob, (.cells (opc kind a t.length c k) 49 (0, 0))) :: E0)) := d2
  have c0 := (opc_cells (d2.at_ (List.mem_cons_of_mem _ (List.mem_cons_self ..)))).1
  clear rm c1 sd hg b2 hog d2 HD1 HW
  rw [HKD.out] at c0
  go_wp2_with fail
  have d2d := HD2.out.below ((Turn.drew (F := fun _ => False) w2).below (fun _ f => f.elim) (Nat.le_refl _) : Below w2.heap.size w2 w2.drew)
  have s0 : (fun v => v.heap[ob]? = some (.cells (opc kind a t.length c k) 49 (0, 0))) w2.drew := d2d.at_ (List.mem_cons_of_mem _ (List.mem_cons_self ..))
  have HDD : Hid (DX W0 w2.drew sb qb st st F G ((g, og) :: (ob, (.cells (opc kind a t.length c k) 49 (0, 0))) :: E0)) := d2d
  refine wp_region_held_drew (S := fun v => v.heap[ob]? = some (.cells (opc kind a t.length c k) 49 (0, 0))) (by kernel_rfl) s0 ?_
  intro hS
  clear s0 d2d HD2 c0
  change wpAnyH _ _ _ _ _ 9 _ _ _
  generalize w2.drew = wd at hS HDD ⊢
  refine wpAnyH_take (i := 0) (v := (.pointer (some ⟨sb, 0, none⟩))) (by simp only [List.getElem?_toArray, List.getElem?_cons_zero]; rfl) (by kernel_rfl) (by kernel_rfl) (by kernel_rfl) (by exact fun _ _ _ h => h) (y_move (by kernel_rfl) _ rfl _ rfl) hS ?_
  try simp only [Act.put, List.setIfInBounds_toArray, List.set_cons_zero, List.set_cons_succ]
  refine wpAnyH_take (i := 1) (v := (.slice (some ⟨g, 0, none⟩) t.length cap)) (by simp only [List.getElem?_toArray, List.getElem?_cons_zero, List.getElem?_cons_succ]; rfl) (by kernel_rfl) (by kernel_rfl) (by kernel_rfl) (by exact fun _ _ _ h => h) (y_move (by kernel_rfl) _ rfl _ rfl) hS ?_
  try simp only [Act.put, List.setIfInBounds_toArray, List.set_cons_zero, List.set_cons_succ]
  refine wpAnyH_take (i := 3) (v := (.pointer (some ⟨qb, 0, none⟩))) (by simp only [List.getElem?_toArray, List.getElem?_cons_zero, List.getElem?_cons_succ]; rfl) (by kernel_rfl) (by kernel_rfl) (by kernel_rfl) (by exact fun _ _ _ h => h) (y_move (by kernel_rfl) _ rfl _ rfl) hS ?_
  try simp only [Act.put, List.setIfInBounds_toArray, List.set_cons_zero, List.set_cons_succ]
  refine wpAnyH_take (i := 4) (v := (.pointer (some ⟨ob, 0 + 1, none⟩))) (by simp only [List.getElem?_toArray, List.getElem?_cons_zero, List.getElem?_cons_succ]; rfl) (by kernel_rfl) (by kernel_rfl) (by kernel_rfl) (by exact fun _ _ _ h => h) (y_fieldO (by kernel_rfl) _ 1 rfl ob 0 rfl (by decide)) hS ?_
  try simp only [Act.put, List.setIfInBounds_toArray, List.set_cons_zero, List.set_cons_succ]
  refine wpAnyH_take (i := 5) (v := (.slice a t.length c)) (by simp only [List.getElem?_toArray, List.getElem?_cons_zero, List.getElem?_cons_succ]; rfl) (by kernel_rfl) (by kernel_rfl) (by kernel_rfl) (by exact fun _ _ _ h => h) (y_loadB (by kernel_rfl) _ rfl ob (0 + 1) rfl _ (fun v hs => (opc_cells hs).2.1)) hS ?_
  try simp only [Act.put, List.setIfInBounds_toArray, List.set_cons_zero, List.set_cons_succ]
  obtain ⟨kk, ekk⟩ : ∃ kk, kk = (kc st.cbits st.S t) := ⟨_, rfl⟩
  have HKK : Hid (kk = (kc st.cbits st.S t) ∧ IsH kk) := ⟨ekk, by rw [ekk]; exact kc_isH _ _ _⟩
  clear ekk
  refine wpAnyH_ready (rs := [2]) (by kernel_rfl) (by simp) ?_
  refine AllReadyH.cons (by simp only [List.getElem?_toArray, List.getElem?_cons_zero, List.getElem?_cons_succ]; rfl) (fun K hK => ?_) AllReadyH.nil
  have cp := code_any4 wd W0.heap.size sb st F HDD.out.bk (HX.out.2.2.2.2.2.2.2.1 _ HDD.out.low).g HX.out.2.2.2.2.2.2.2.2.1 (by have := HX.out.2.1.c; have := HX.out.2.2.1; omega) (some ⟨g, 0, none⟩) g 0 cap t (vwd_of (HSD.out wd) (HDD.out.at_ (List.mem_cons_self ..))) HCP.out (by omega) (fun _ => HDD.out.off (List.mem_cons_self ..))
  rw [← HKK.out.1] at cp
  refine r_call2 9 _ _ #[22, 26] rfl (by kernel_rfl) (.pointer (some ⟨sb, 0, none⟩)) (.slice (some ⟨g, 0, none⟩) t.length cap) rfl rfl (enters_of Tryz.func9 (by kernel_rfl) rfl) (cp.mono ?_)
  rintro _ w3 ⟨rfl, tn⟩
  refine ⟨_, rfl, ?_⟩
  obtain ⟨F3, d3⟩ := HDD.out.prog tn
  have HD3 : Hid (DX W0 w3 sb qb { st with LC := ins t st.LC } st F3 G ((g, og) :: (ob, (.cells (opc kind a t.length c k) 49 (0, 0))) :: E0)) := d3
  refine hK.out _ _ (d3.at_ (List.mem_cons_of_mem _ (List.mem_cons_self ..))) (fun hS => ?_)
  clear hK K cp tn d3 HDD
  try simp only [Act.put, List.setIfInBounds_toArray, List.set_cons_zero, List.set_cons_succ]
  refine wpAnyH_ready (rs := [6]) (by kernel_rfl) (by simp) ?_
  refine AllReadyH.cons (by simp only [List.getElem?_toArray, List.getElem?_cons_zero, List.getElem?_cons_succ]; rfl) (fun K hK => ?_) AllReadyH.nil
  have cq := rb_code w3 W0.heap.size qb st G HD3.out.rb (HX.out.2.2.2.2.2.2.2.1 _ HD3.out.low) (by have := HX.out.2.1.c; have := HX.out.2.2.1; omega) a b off c t (HX.out.2.2.2.1.below HD3.out.low) HX.out.2.2.2.2.2.1 (by omega)
  rw [← HKK.out.1] at cq
  refine r_call2 40 _ _ #[42, 26] rfl (by kernel_rfl) (.pointer (some ⟨qb, 0, none⟩)) (.slice a t.length c) rfl rfl (enters_of Tryz.func40 (by kernel_rfl) rfl) (cq.mono ?_)
  rintro _ w4 ⟨rfl, tn⟩
  refine ⟨_, rfl, ?_⟩
  obtain ⟨G4, d4⟩ := HD3.out.ref tn
  have HD4 : Hid (DX W0 w4 sb qb { st with LC := ins t st.LC } { st with LC := ins t st.LC } F3 G4 ((g, og) :: (ob, (.cells (opc kind a t.length c k) 49 (0, 0))) :: E0)) := d4
  refine hK.out _ _ (d4.at_ (List.mem_cons_of_mem _ (List.mem_cons_self ..))) (fun hS => ?_)
  clear hK K cq tn d4 HD3
  try simp only [Act.put, List.setIfInBounds_toArray, List.set_cons_zero, List.set_cons_succ]
  have eqk : ∀ w0 : World, (Op.equalIn 10000 31 (.agg (hA kk)) (.agg (hA kk))).run Tryz.prog w0 = .ok true w0 := fun w0 => by rw [eqH_any w0 _ _ HKK.out.2 HKK.out.2, decide_eq_true rfl]
  refine wpAnyH_take (i := 7) (v := (.bool true)) (by simp only [List.getElem?_toArray, List.getElem?_cons_zero, List.getElem?_cons_succ]; rfl) (by kernel_rfl) (by kernel_rfl) (by kernel_rfl) (by exact fun _ _ _ h => h) (y_eqlH (by kernel_rfl) _ _ rfl _ _ rfl rfl _ eqk) hS ?_
  try simp only [Act.put, List.setIfInBounds_toArray, List.set_cons_zero, List.set_cons_succ]
  refine wpAnyH_take (i := 8) (v := (.bool true)) (by simp only [List.getElem?_toArray, List.getElem?_cons_zero, List.getElem?_cons_succ]; rfl) (by kernel_rfl) (by kernel_rfl) (by kernel_rfl) (by exact fun _ _ _ h => h) (y_assign (by kernel_rfl) _ rfl _ rfl) hS ?_
  try simp only [Act.put, List.setIfInBounds_toArray, List.set_cons_zero, List.set_cons_succ]
  refine wpAnyH_done (by kernel_rfl) ?_ _
  clear hS eqk
  obtain ⟨s4, es4⟩ : ∃ s4 : Bst, s4 = { st with LC := ins t st.LC } := ⟨_, rfl⟩
  rw [← es4] at HD4
  have HB4 : Hid (Bd s4 (N + 1)) := by rw [es4]; exact HX.out.2.1.insC HX.out.2.2.2.2.2.2.2.2.2
  clear es4
  have wh := whole_any4 w4 (fun i => i = g) g cap t (HSD.out _ (HD4.out.at_ (List.mem_cons_self ..))) a b off c (HX.out.2.2.2.1.below HD4.out.low)
  have c1 := (opc_cells (HD4.out.at_ (List.mem_cons_of_mem _ (List.mem_cons_self ..)))).2.1
  go_wp2_with fail
  refine wh.mono ?_
  rintro _ w5 ⟨rfl, q5, hw5⟩
  have d5 := HD4.out.below (by rw [hw5]; exact below_drewN (Below.refl _ _) q5 : Below w4.heap.size w4 w5)
  have HD5 : Hid (DX W0 w5 sb qb s4 s4 F3 G4 ((g, og) :: (ob, (.cells (opc kind a t.length c k) 49 (0, 0))) :: E0)) := d5
  have c0 := (opc_cells (d5.at_ (List.mem_cons_of_mem _ (List.mem_cons_self ..)))).1
  have c1 := (opc_cells (d5.at_ (List.mem_cons_of_mem _ (List.mem_cons_self ..)))).2.1
  clear wh hw5 d5 HD4
  rw [HKD.out] at c0
  by_cases h0 : 0 < t.length
  · skip
    have tu := turn_any4 w5 (fun i => i = g) g cap t (str_pre (HSD.out _ (HD5.out.at_ (List.mem_cons_self ..))))
    have i1 : (0 : Int) < (t.length : Int) := by omega
    go_wp2_with fail
    refine tu.mono ?_
    rintro _ w6 ⟨rfl, sd6, t6⟩
    obtain ⟨og6, hog6⟩ := str_obj sd6
    have d6 := HD5.out.write HG.out.1 (fun p hp => (List.mem_cons.1 hp).elim (fun e => by rw [e]; exact HG.out.2.1) (HG.out.2.2.2 p)) t6 hog6
    have HSD6 : Hid (∀ v : World, v.heap[g]? = some og6 → Str v (fun i => i = g) (.slice (some ⟨g, 0, none⟩) t.length cap) (tw t)) := fun v hv => str_at sd6 (hv.trans hog6.symm)
    have HD6 : Hid (DX W0 w6 sb qb s4 s4 F3 G4 ((g, og6) :: (ob, (.cells (opc kind a t.length c k) 49 (0, 0))) :: E0)) := d6
    have own0 := World.ownsRow_lit (base := w6.heap.size) (e := 5) (size := 1) w6 #[] 0 (Nat.le_refl _) (by decide) rfl
    have v0 : Vw (w6.alloc (.cells #[] 5)) (some ⟨g, 0, none⟩) g 0 (tw t) := (vwd_of2 sd6).below ((Below.refl _ _).alloc (Nat.le_refl _) _)
    unfold Vw at v0
    rw [tw_len] at v0
    have HV0 : Hid (View (w6.alloc (.cells #[] 5)) (some ⟨g, 0, none⟩) g 0 t.length (fun i => ((gd (tw t) i : Nat) : Int)) ∧ (w6.alloc (.cells #[] 5)).ownsRow w6.heap.size 5 1 (.slice (some ⟨w6.heap.size, 0, none⟩) 0 0) 0 []) := ⟨v0, own0⟩
    clear tu sd6 hog6 t6 d6 own0 v0 c0 c1 HD5
    go_upto_region 16 with (refine wpList_append_bytes (by rfl) (.tmp 75) (.tmp 76) (by rfl) w6.heap.size _ 0 [] (by rfl) HV0.out.2 (some ⟨g, 0, none⟩) g 0 t.length cap _ (by rfl) HV0.out.1 (fun e => by cases e) (by omega) (by simp) ?_; intro v7 w7 own7 gr7 nn7)
    have b7 : Below w6.heap.size w6 w7 := ((Below.refl _ _).alloc (Nat.le_refl _) _).trans (grown_below gr7 HV0.out.2 (Nat.le_refl _) (by simp))
    have own7' : w7.ownsRow w6.heap.size 5 1 v7 t.length (bv (tw t)) := by
      have e := vals_bv (tw t)
      rw [tw_len] at e
      rw [← e]
      simpa using own7
    obtain ⟨a7, c7, e7⟩ := own_slice own7'
    subst e7
    have HD7 : Hid (DX W0 w7 sb qb s4 s4 F3 G4 ((g, og6) :: (ob, (.cells (opc kind a t.length c k) 49 (0, 0))) :: E0)) := HD6.out.below b7
    have st7 : Str w7 Any (.slice a7 t.length c7) (tw t) := ⟨by rw [tw_len]; exact own_base own7', fun _ _ => trivial, (HSD6.out _ (HD6.out.at_ (List.mem_cons_self ..))).ok⟩
    have HO7 : Hid (∃ g7, Vw w7 a7 g7 0 (tw t) ∧ (a7 = none → c7 = 0) ∧ (0 < (tw t).length → w6.heap.size ≤ g7)) := by
      obtain ⟨x, y, z, e, _, vw, _⟩ := st7.view
      injection e with e1 _ e3
      subst e1
      refine ⟨y, vw, (own_nil own7').1, fun h0 => ?_⟩
      have e2 := vw.at_ h0
      exact (own7'.lt y (by rw [e2]; rfl)).1
    clear own7 own7' gr7 nn7 b7 st7 HV0
    obtain ⟨g7, vw7, nl7, lo7⟩ := HO7.out
    have cp := code_any4 w7 W0.heap.size sb s4 F3 HD7.out.bk (HX.out.2.2.2.2.2.2.2.1 _ HD7.out.low).g HX.out.2.2.2.2.2.2.2.2.1 (by have := HB4.out.c; have := HX.out.2.2.1; omega) (some ⟨g, 0, none⟩) g 0 cap (tw t) (vwd_of2 (HSD6.out _ (HD7.out.at_ (List.mem_cons_self ..)))) (by rw [tw_len]; exact HCP.out) (by rw [tw_len]; omega) (fun _ => HD7.out.off (List.mem_cons_self ..))
    rw [tw_len] at cp
    obtain ⟨k2, ek2⟩ : ∃ k2, k2 = (kc s4.cbits s4.S (tw t)) := ⟨_, rfl⟩
    have HK2 : Hid (k2 = (kc s4.cbits s4.S (tw t)) ∧ IsH k2) := ⟨ek2, by rw [ek2]; exact kc_isH _ _ _⟩
    rw [← ek2] at cp
    clear ek2
    have c0 := (opc_cells (HD7.out.at_ (List.mem_cons_of_mem _ (List.mem_cons_self ..)))).1
    rw [HKD.out] at c0
    have HV7 : Hid (Vw w7 a7 g7 0 (tw t) ∧ (a7 = none → c7 = 0) ∧ (0 < (tw t).length → w6.heap.size ≤ g7 ∧ g7 < w7.heap.size)) := ⟨vw7, nl7, fun h0 => ⟨lo7 h0, vw7.lt h0⟩⟩
    have HQ7 : Hid (∀ i, F3 i → i < w6.heap.size) := fun i q => (HD6.out.bk.lim i q).2
    clear vw7 nl7 lo7 HO7 HD6
    go_wp2_with fail
    refine cp.mono ?_
    rintro _ w8 ⟨rfl, tn⟩
    have vw8 : Vw w8 a7 g7 0 (tw t) := by
      by_cases h0 : 0 < (tw t).length
      · exact HV7.out.1.turn tn.turn (fun _ q => by have := HQ7.out g7 q; have := (HV7.out.2.2 h0).1; omega)
      · exact HV7.out.1.turn tn.turn (fun z => absurd z h0)
    obtain ⟨F8, d8⟩ := HD7.out.prog tn
    have HD8 : Hid (DX W0 w8 sb qb { s4 with LC := ins (tw t) s4.LC } s4 F8 G4 ((g, og6) :: (ob, (.cells (opc kind a t.length c k) 49 (0, 0))) :: E0)) := d8
    have cq := rb_code w8 W0.heap.size qb s4 G4 d8.rb (HX.out.2.2.2.2.2.2.2.1 _ d8.low) (by have := HB4.out.c; have := HX.out.2.2.1; omega) a7 g7 0 c7 (tw t) vw8 HV7.out.2.1 (by rw [tw_len]; omega)
    rw [tw_len, ← HK2.out.1] at cq
    clear cp tn d8 vw8 HV7 HQ7 HD7 c0
    go_wp2_with fail
    refine cq.mono ?_
    rintro _ w8b ⟨rfl, tn⟩
    obtain ⟨G8, d8⟩ := HD8.out.ref tn
    have HD8b : Hid (DX W0 w8b sb qb { s4 with LC := ins (tw t) s4.LC } { s4 with LC := ins (tw t) s4.LC } F8 G8 ((g, og6) :: (ob, (.cells (opc kind a t.length c k) 49 (0, 0))) :: E0)) := d8
    have eqk : ∀ w0 : World, (Op.equalIn 10000 31 (.agg (hA k2)) (.agg (hA k2))).run Tryz.prog w0 = .ok true w0 := fun w0 => by rw [eqH_any w0 _ _ HK2.out.2 HK2.out.2, decide_eq_true rfl]
    clear cq tn d8 HD8
    obtain ⟨s8, es8⟩ : ∃ s8 : Bst, s8 = { s4 with LC := ins (tw t) s4.LC } := ⟨_, rfl⟩
    rw [← es8] at HD8b
    have HB8 : Hid (Bd s8 (N + 2)) := by rw [es8]; exact HB4.out.insC (by rw [tw_len]; exact HX.out.2.2.2.2.2.2.2.2.2)
    clear es8
    have sm := smudge_any4 w8b (fun i => i = g) g cap (tw t) (by rw [tw_len]; exact HSD6.out _ (HD8b.out.at_ (List.mem_cons_self ..))) 99 (by decide) (by rw [tw_len]; omega)
    rw [tw_len] at sm
    rw [show ((99 : Nat) : Int) = 99 from rfl] at sm
    go_wp2_with fail
    refine sm.mono ?_
    rintro _ w9 ⟨rfl, t9⟩
    have l9 : g < w9.heap.size := Nat.lt_of_lt_of_le (Array.getElem?_eq_some_iff.1 (HD8b.out.at_ (List.mem_cons_self ..))).1 t9.size
    have d9 := HD8b.out.write HG.out.1 (fun p hp => (List.mem_cons.1 hp).elim (fun e => by rw [e]; exact HG.out.2.1) (HG.out.2.2.2 p)) t9 (Array.getElem?_eq_getElem l9)
    have HD9 : Hid (DX W0 w9 sb qb s8 s8 F8 G8 E0) := d9.drop (fun p hp => List.mem_cons_of_mem _ (List.mem_cons_of_mem _ hp))
    clear t9 l9 d9 sm HD8b
    go_wp2_with fail
    go_ret
    exact ⟨rfl, s8, F8, G8, HB8.out, HD9.out⟩
  · skip
    have i1 : ¬ (0 : Int) < (t.length : Int) := by omega
    have sm := smudge_any4 w5 (fun i => i = g) g cap t (str_pre (HSD.out _ (HD5.out.at_ (List.mem_cons_self ..)))) 99 (by decide) (by omega)
    rw [show ((99 : Nat) : Int) = 99 from rfl] at sm
    go_wp2_with fail
    refine sm.mono ?_
    rintro _ w9 ⟨rfl, t9⟩
    have l9 : g < w9.heap.size := Nat.lt_of_lt_of_le (Array.getElem?_eq_some_iff.1 (HD5.out.at_ (List.mem_cons_self ..))).1 t9.size
    have d9 := HD5.out.write HG.out.1 (fun p hp => (List.mem_cons.1 hp).elim (fun e => by rw [e]; exact HG.out.2.1) (HG.out.2.2.2 p)) t9 (Array.getElem?_eq_getElem l9)
    have HD9 : Hid (DX W0 w9 sb qb s4 s4 F3 G4 E0) := d9.drop (fun p hp => List.mem_cons_of_mem _ (List.mem_cons_of_mem _ hp))
    clear t9 l9 d9 sm HD5
    go_wp2_with fail
    go_ret
    exact ⟨rfl, s4, F3, G4, HB4.out.mono (by omega), HD9.out⟩
end Go.Proofs.YtlhllbggnpcoaaaGreatDoor

/-
  cairnlaw04.step, of the lists, and of nothing.
-/
namespace Go.Proofs.YtlhllbggnpcoaaaGreatDoor
open Go.RowKit Go.Sort Go.Maps

set_option maxRecDepth 100000 in
set_option maxHeartbeats 6400000 in
theorem step_four (W0 w : World) (sb qb : Nat) (st : Bst) (F G : Nat → Prop) (N : Nat) (E0 : List (Nat × Obj)) (h : DX W0 w sb qb st st F G E0) (hGr : Gr W0) (hB : Bd st N) (hN : N ≤ 900) (kind : Int) (hkind : kind = 4) (a : Option Addr) (b off c : Nat) (t : List Nat) (ht : Vw W0 a b off t) (hc : t.length ≤ c) (hnil : a = none → c = 0) (hs : t.length ≤ 140737488351232) (k : List Nat) (hk : IsH k) :
    Calls Tryz.prog 20 #[(.pointer (some ⟨sb, 0, none⟩)), (.pointer (some ⟨qb, 0, none⟩)), .agg (opc kind a t.length c k)] w fun e w' => e = .returned (.bool true) ∧ ∃ st' F' G', Bd st' (N + 2) ∧ DX W0 w' sb qb st' st' F' G' E0 := by
  have HKD := hid_of hkind
  clear hkind
  have d1 : DX W0 (w.alloc (.cells (opc kind a t.length c k) 49)) sb qb st st F G ((w.heap.size, (.cells (opc kind a t.length c k) 49 (0, 0))) :: E0) := h.more ((Below.refl _ _).alloc (Nat.le_refl _) _) (Nat.le_refl _) (heap_alloc_new _ _)
  obtain ⟨W1, hW1⟩ : ∃ W1, W1 = w.alloc (.cells (opc kind a t.length c k) 49) := ⟨_, rfl⟩
  obtain ⟨ob, hob⟩ : ∃ ob, ob = w.heap.size := ⟨_, rfl⟩
  rw [← hW1, ← hob] at d1
  have HX : Hid (Gr W0 ∧ Bd st N ∧ N ≤ 900 ∧ Vw W0 a b off t ∧ t.length ≤ c ∧ (a = none → c = 0) ∧ IsH k ∧ (∀ v, Below W0.heap.size W0 v → Gr v) ∧ 2 < W0.heap.size ∧ t.length ≤ 140737488351232) := ⟨hGr, hB, hN, ht, hc, hnil, hk, fun v hv => hGr.below hv, hGr.g.big, hs⟩
  have HFB : Hid (∀ (v : World) (s1 s2 : Bst) (F' G' : Nat → Prop) (E : List (Nat × Obj)), DX W0 v sb qb s1 s2 F' G' E → 0 < t.length → ¬ F' b) := fun v s1 s2 F' G' E d h0 z => by
    have h1 := ht.lt h0
    have h2 := (d.bk.lim b z).1
    omega
  have HW : Hid (W0.heap.size ≤ ob ∧ ob < W1.heap.size) := ⟨by rw [hob]; exact h.low.size, (Array.getElem?_eq_some_iff.1 (d1.at_ (List.mem_cons_self ..))).1⟩
  have rm := roomy_any4 W1 a b off c t (ht.below d1.low) hnil (by omega)
  have c1 := (opc_cells (d1.at_ (List.mem_cons_self ..))).2.1
  have HD1 : Hid (DX W0 W1 sb qb st st F G ((ob, (.cells (opc kind a t.length c k) 49 (0, 0))) :: E0)) := d1
  clear h hGr hB hN ht hc hnil hk d1
  go_enter Tryz.func20, Tryz.ntmps20
  go_upto_region 1 with fail
  rw [← hW1, ← hob]
  clear hW1 hob
  go_wp2_with fail
  refine rm.mono ?_
  rintro _ w2 ⟨g, cap, rfl, sd, hg, b2⟩
  obtain ⟨og, hog⟩ := str_obj sd
  have d2 := HD1.out.more b2 hg hog
  have HG : Hid (W0.heap.size ≤ g ∧ ob ≠ g ∧ W0.heap.size ≤ ob ∧ ∀ p ∈ E0, p.1 ≠ g) := by
    have := HW.out
    refine ⟨by omega, by omega, this.1, fun p hp => ?_⟩
    have h1 := (Array.getElem?_eq_some_iff.1 (HD1.out.e p (List.mem_cons_of_mem _ hp)).1).1
    omega
  have HSD : Hid (∀ v : World, v.heap[g]? = some og → Str v (fun i => i = g) (.slice (some ⟨g, 0, none⟩) (t ++ mks).length cap) (t ++ mks)) := fun v hv => str_at sd (hv.trans hog.symm)
  have HCP : Hid (t.length ≤ cap) := by have := (own_row sd.own).2.1; rw [List.length_append] at this; show t.length ≤ cap; omega
  have HD2 : Hid (DX W0 w2 sb qb st st F G ((g, og) :: (ob, (.cells (opc kind a t.length c k) 49 (0, 0))) :: E0)) := d2
  have c0 := (opc_cells (d2.at_ (List.mem_cons_of_mem _ (List.mem_cons_self ..)))).1
  clear rm c1 sd hg b2 hog d2 HD1 HW
  rw [HKD.out] at c0
  have tl := told_any w2 W0.heap.size sb qb st F G HD2.out.bk HD2.out.rb HD2.out.tk (HX.out.2.1.small (by have := HX.out.2.2.1; omega)) (by have := HX.out.2.1.h; have := HX.out.2.2.1; omega) (by have := HX.out.2.1.c; have := HX.out.2.2.1; omega) (by have := HX.out.2.1.f; have := HX.out.2.2.1; omega)
  go_wp2_with fail
  refine tl.mono ?_
  rintro _ w4 ⟨rfl, k4, q4, t4⟩
  have HD4 : Hid (DX W0 w4 sb qb st st F G ((g, og) :: (ob, (.cells (opc kind a t.length c k) 49 (0, 0))) :: E0)) := HD2.out.told k4 q4 t4
  clear tl k4 q4 t4 HD2 c0
  have wh := whole_any4 w4 (fun i => i = g) g cap t (HSD.out _ (HD4.out.at_ (List.mem_cons_self ..))) a b off c (HX.out.2.2.2.1.below HD4.out.low)
  have c1 := (opc_cells (HD4.out.at_ (List.mem_cons_of_mem _ (List.mem_cons_self ..)))).2.1
  go_wp2_with fail
  refine wh.mono ?_
  rintro _ w5 ⟨rfl, q5, hw5⟩
  have d5 := HD4.out.below (by rw [hw5]; exact below_drewN (Below.refl _ _) q5 : Below w4.heap.size w4 w5)
  have HD5 : Hid (DX W0 w5 sb qb st st F G ((g, og) :: (ob, (.cells (opc kind a t.length c k) 49 (0, 0))) :: E0)) := d5
  have c0 := (opc_cells (d5.at_ (List.mem_cons_of_mem _ (List.mem_cons_self ..)))).1
  have c1 := (opc_cells (d5.at_ (List.mem_cons_of_mem _ (List.mem_cons_self ..)))).2.1
  clear wh hw5 d5 HD4
  rw [HKD.out] at c0
  by_cases h0 : 0 < t.length
  · skip
    have i1 : (0 : Int) < (t.length : Int) := by omega
    have sm := smudge_any4 w5 (fun i => i = g) g cap t (str_pre (HSD.out _ (HD5.out.at_ (List.mem_cons_self ..)))) 99 (by decide) (by omega)
    rw [show ((99 : Nat) : Int) = 99 from rfl] at sm
    go_wp2_with fail
    refine sm.mono ?_
    rintro _ w9 ⟨rfl, t9⟩
    have l9 : g < w9.heap.size := Nat.lt_of_lt_of_le (Array.getElem?_eq_some_iff.1 (HD5.out.at_ (List.mem_cons_self ..))).1 t9.size
    have d9 := HD5.out.write HG.out.1 (fun p hp => (List.mem_cons.1 hp).elim (fun e => by rw [e]; exact HG.out.2.1) (HG.out.2.2.2 p)) t9 (Array.getElem?_eq_getElem l9)
    have HD9 : Hid (DX W0 w9 sb qb st st F G E0) := d9.drop (fun p hp => List.mem_cons_of_mem _ (List.mem_cons_of_mem _ hp))
    clear t9 l9 d9 sm HD5
    go_wp2_with fail
    go_ret
    exact ⟨rfl, st, F, G, HX.out.2.1.mono (by omega), HD9.out⟩
  · skip
    have i1 : ¬ (0 : Int) < (t.length : Int) := by omega
    have sm := smudge_any4 w5 (fun i => i = g) g cap t (str_pre (HSD.out _ (HD5.out.at_ (List.mem_cons_self ..)))) 99 (by decide) (by omega)
    rw [show ((99 : Nat) : Int) = 99 from rfl] at sm
    go_wp2_with fail
    refine sm.mono ?_
    rintro _ w9 ⟨rfl, t9⟩
    have l9 : g < w9.heap.size := Nat.lt_of_lt_of_le (Array.getElem?_eq_some_iff.1 (HD5.out.at_ (List.mem_cons_self ..))).1 t9.size
    have d9 := HD5.out.write HG.out.1 (fun p hp => (List.mem_cons.1 hp).elim (fun e => by rw [e]; exact HG.out.2.1) (HG.out.2.2.2 p)) t9 (Array.getElem?_eq_getElem l9)
    have HD9 : Hid (DX W0 w9 sb qb st st F G E0) := d9.drop (fun p hp => List.mem_cons_of_mem _ (List.mem_cons_of_mem _ hp))
    clear t9 l9 d9 sm HD5
    go_wp2_with fail
    go_ret
    exact ⟨rfl, st, F, G, HX.out.2.1.mono (by omega), HD9.out⟩
set_option maxRecDepth 100000 in
set_option maxHeartbeats 6400000 in
theorem step_none (W0 w : World) (sb qb : Nat) (st : Bst) (F G : Nat → Prop) (N : Nat) (E0 : List (Nat × Obj)) (h : DX W0 w sb qb st st F G E0) (hGr : Gr W0) (hB : Bd st N) (hN : N ≤ 900) (kind : Int) (hkind : kind ≠ 1 ∧ kind ≠ 2 ∧ kind ≠ 3 ∧ kind ≠ 4) (a : Option Addr) (b off c : Nat) (t : List Nat) (ht : Vw W0 a b off t) (hc : t.length ≤ c) (hnil : a = none → c = 0) (hs : t.length ≤ 140737488351232) (k : List Nat) (hk : IsH k) :
    Calls Tryz.prog 20 #[(.pointer (some ⟨sb, 0, none⟩)), (.pointer (some ⟨qb, 0, none⟩)), .agg (opc kind a t.length c k)] w fun e w' => e = .returned (.bool true) ∧ ∃ st' F' G', Bd st' (N + 2) ∧ DX W0 w' sb qb st' st' F' G' E0 := by
  have HKD := hid_of hkind
  clear hkind
  have d1 : DX W0 (w.alloc (.cells (opc kind a t.length c k) 49)) sb qb st st F G ((w.heap.size, (.cells (opc kind a t.length c k) 49 (0, 0))) :: E0) := h.more ((Below.refl _ _).alloc (Nat.le_refl _) _) (Nat.le_refl _) (heap_alloc_new _ _)
  obtain ⟨W1, hW1⟩ : ∃ W1, W1 = w.alloc (.cells (opc kind a t.length c k) 49) := ⟨_, rfl⟩
  obtain ⟨ob, hob⟩ : ∃ ob, ob = w.heap.size := ⟨_, rfl⟩
  rw [← hW1, ← hob] at d1
  have HX : Hid (Gr W0 ∧ Bd st N ∧ N ≤ 900 ∧ Vw W0 a b off t ∧ t.length ≤ c ∧ (a = none → c = 0) ∧ IsH k ∧ (∀ v, Below W0.heap.size W0 v → Gr v) ∧ 2 < W0.heap.size ∧ t.length ≤ 140737488351232) := ⟨hGr, hB, hN, ht, hc, hnil, hk, fun v hv => hGr.below hv, hGr.g.big, hs⟩
  have HFB : Hid (∀ (v : World) (s1 s2 : Bst) (F' G' : Nat → Prop) (E : List (Nat × Obj)), DX W0 v sb qb s1 s2 F' G' E → 0 < t.length → ¬ F' b) := fun v s1 s2 F' G' E d h0 z => by
    have h1 := ht.lt h0
    have h2 := (d.bk.lim b z).1
    omega
  have HW : Hid (W0.heap.size ≤ ob ∧ ob < W1.heap.size) := ⟨by rw [hob]; exact h.low.size, (Array.getElem?_eq_some_iff.1 (d1.at_ (List.mem_cons_self ..))).1⟩
  have rm := roomy_any4 W1 a b off c t (ht.below d1.low) hnil (by omega)
  have c1 := (opc_cells (d1.at_ (List.mem_cons_self ..))).2.1
  have HD1 : Hid (DX W0 W1 sb qb st st F G ((ob, (.cells (opc kind a t.length c k) 49 (0, 0))) :: E0)) := d1
  clear h hGr hB hN ht hc hnil hk d1
  go_enter Tryz.func20, Tryz.ntmps20
  go_upto_region 1 with fail
  rw [← hW1, ← hob]
  clear hW1 hob
  go_wp2_with fail
  refine rm.mono ?_
  rintro _ w2 ⟨g, cap, rfl, sd, hg, b2⟩
  obtain ⟨og, hog⟩ := str_obj sd
  have d2 := HD1.out.more b2 hg hog
  have HG : Hid (W0.heap.size ≤ g ∧ ob ≠ g ∧ W0.heap.size ≤ ob ∧ ∀ p ∈ E0, p.1 ≠ g) := by
    have := HW.out
    refine ⟨by omega, by omega, this.1, fun p hp => ?_⟩
    have h1 := (Array.getElem?_eq_some_iff.1 (HD1.out.e p (List.mem_cons_of_mem _ hp)).1).1
    omega
  have HSD : Hid (∀ v : World, v.heap[g]? = some og → Str v (fun i => i = g) (.slice (some ⟨g, 0, none⟩) (t ++ mks).length cap) (t ++ mks)) := fun v hv => str_at sd (hv.trans hog.symm)
  have HCP : Hid (t.length ≤ cap) := by have := (own_row sd.own).2.1; rw [List.length_append] at this; show t.length ≤ cap; omega
  have HD2 : Hid (DX W0 w2 sb qb st st F G ((g, og) :: (ob, (.cells (opc kind a t.length c k) 49 (0, 0))) :: E0)) := d2
  have c0 := (opc_cells (d2.at_ (List.mem_cons_of_mem _ (List.mem_cons_self ..)))).1
  clear rm c1 sd hg b2 hog d2 HD1 HW
  have n1 : (kind == 1) = false := by simp [HKD.out.1]
  have n2 : (kind == 2) = false := by simp [HKD.out.2.1]
  have n3 : (kind == 3) = false := by simp [HKD.out.2.2.1]
  have n4 : (kind == 4) = false := by simp [HKD.out.2.2.2]
  have wh := whole_any4 w2 (fun i => i = g) g cap t (HSD.out _ (HD2.out.at_ (List.mem_cons_self ..))) a b off c (HX.out.2.2.2.1.below HD2.out.low)
  have c1 := (opc_cells (HD2.out.at_ (List.mem_cons_of_mem _ (List.mem_cons_self ..)))).2.1
  go_wp2_with fail
  refine wh.mono ?_
  rintro _ w5 ⟨rfl, q5, hw5⟩
  have d5 := HD2.out.below (by rw [hw5]; exact below_drewN (Below.refl _ _) q5 : Below w2.heap.size w2 w5)
  have HD5 : Hid (DX W0 w5 sb qb st st F G ((g, og) :: (ob, (.cells (opc kind a t.length c k) 49 (0, 0))) :: E0)) := d5
  have c0 := (opc_cells (d5.at_ (List.mem_cons_of_mem _ (List.mem_cons_self ..)))).1
  have c1 := (opc_cells (d5.at_ (List.mem_cons_of_mem _ (List.mem_cons_self ..)))).2.1
  clear wh hw5 d5 HD2
  by_cases h0 : 0 < t.length
  · skip
    have i1 : (0 : Int) < (t.length : Int) := by omega
    have sm := smudge_any4 w5 (fun i => i = g) g cap t (str_pre (HSD.out _ (HD5.out.at_ (List.mem_cons_self ..)))) 99 (by decide) (by omega)
    rw [show ((99 : Nat) : Int) = 99 from rfl] at sm
    go_wp2_with fail
    refine sm.mono ?_
    rintro _ w9 ⟨rfl, t9⟩
    have l9 : g < w9.heap.size := Nat.lt_of_lt_of_le (Array.getElem?_eq_some_iff.1 (HD5.out.at_ (List.mem_cons_self ..))).1 t9.size
    have d9 := HD5.out.write HG.out.1 (fun p hp => (List.mem_cons.1 hp).elim (fun e => by rw [e]; exact HG.out.2.1) (HG.out.2.2.2 p)) t9 (Array.getElem?_eq_getElem l9)
    have HD9 : Hid (DX W0 w9 sb qb st st F G E0) := d9.drop (fun p hp => List.mem_cons_of_mem _ (List.mem_cons_of_mem _ hp))
    clear t9 l9 d9 sm HD5
    go_wp2_with fail
    go_ret
    exact ⟨rfl, st, F, G, HX.out.2.1.mono (by omega), HD9.out⟩
  · skip
    have i1 : ¬ (0 : Int) < (t.length : Int) := by omega
    have sm := smudge_any4 w5 (fun i => i = g) g cap t (str_pre (HSD.out _ (HD5.out.at_ (List.mem_cons_self ..)))) 99 (by decide) (by omega)
    rw [show ((99 : Nat) : Int) = 99 from rfl] at sm
    go_wp2_with fail
    refine sm.mono ?_
    rintro _ w9 ⟨rfl, t9⟩
    have l9 : g < w9.heap.size := Nat.lt_of_lt_of_le (Array.getElem?_eq_some_iff.1 (HD5.out.at_ (List.mem_cons_self ..))).1 t9.size
    have d9 := HD5.out.write HG.out.1 (fun p hp => (List.mem_cons.1 hp).elim (fun e => by rw [e]; exact HG.out.2.1) (HG.out.2.2.2 p)) t9 (Array.getElem?_eq_getElem l9)
    have HD9 : Hid (DX W0 w9 sb qb st st F G E0) := d9.drop (fun p hp => List.mem_cons_of_mem _ (List.mem_cons_of_mem _ hp))
    clear t9 l9 d9 sm HD5
    go_wp2_with fail
    go_ret
    exact ⟨rfl, st, F, G, HX.out.2.1.mono (by omega), HD9.out⟩

/-- A STEP, of whatever kind -/
theorem step_any (W0 w : World) (sb qb : Nat) (st : Bst) (F G : Nat → Prop) (N : Nat) (E0 : List (Nat × Obj)) (h : DX W0 w sb qb st st F G E0) (hGr : Gr W0) (hB : Bd st N) (hN : N ≤ 900) (kind : Int) (a : Option Addr) (b off c : Nat) (t : List Nat) (ht : Vw W0 a b off t) (hc : t.length ≤ c) (hnil : a = none → c = 0) (hs : t.length ≤ 140737488351232) (k : List Nat) (hk : IsH k) :
    Calls Tryz.prog 20 #[(.pointer (some ⟨sb, 0, none⟩)), (.pointer (some ⟨qb, 0, none⟩)), .agg (opc kind a t.length c k)] w fun e w' => e = .returned (.bool true) ∧ ∃ st' F' G', Bd st' (N + 2) ∧ DX W0 w' sb qb st' st' F' G' E0 := by
  by_cases h1 : kind = 1
  · exact step_one W0 w sb qb st F G N E0 h hGr hB hN kind h1 a b off c t ht hc hnil hs k hk
  by_cases h2 : kind = 2
  · exact step_two W0 w sb qb st F G N E0 h hGr hB hN kind h2 a b off c t ht hc hnil hs k hk
  by_cases h3 : kind = 3
  · by_cases e : kc st.cbits st.S t = k
    · by_cases q : t ∈ st.LC
      · exact step_three_own W0 w sb qb st F G N E0 h hGr hB hN kind a b off c t ht hc hnil hs k hk ⟨h3, e, q⟩
      · exact step_three_forge W0 w sb qb st F G N E0 h hGr hB hN kind a b off c t ht hc hnil hs k hk ⟨h3, e, q⟩
    · exact step_three_no W0 w sb qb st F G N E0 h hGr hB hN kind a b off c t ht hc hnil hs k hk ⟨h3, e⟩
  by_cases h4 : kind = 4
  · exact step_four W0 w sb qb st F G N E0 h hGr hB hN kind h4 a b off c t ht hc hnil hs k hk
  · exact step_none W0 w sb qb st F G N E0 h hGr hB hN kind ⟨h1, h2, h3, h4⟩ a b off c t ht hc hnil hs k hk
end Go.Proofs.YtlhllbggnpcoaaaGreatDoor
