import Derived.Test.YtlhllbggnpcoaaaGreatDoorSt2
import Derived.Test.YtlhllbggnpcoaaaGreatDoorSt3
import Derived.Test.YtlhllbggnpcoaaaGreatDoorSt1
/-
  cairnlaw04.step, of the lists, and of nothing.
-/
namespace Go.Proofs.YtlhllbggnpcoaaaGreatDoor
open Go.RowKit Go.Sort Go.Maps

set_option maxRecDepth 100000 in
set_option maxHeartbeats 6400000 in
theorem step_four (W0 w : World) (sb qb : Nat) (st : Bst) (F G : Nat → Prop) (N : Nat) (E0 : List (Nat × Obj)) (h : DX W0 w sb qb st st F G E0) (hGr : Gr W0) (hB : Bd st N) (hN : N ≤ 900) (kind : Int) (hkind : kind = 4) (a : Option Addr) (b off c : Nat) (t : List Nat) (ht : Vw W0 a b off t) (hc : t.length ≤ c) (hnil : a = none → c = 0) (hs : t.length ≤ 140737488351232) (k : List Nat) (hk : IsH k) :
    Calls Tryz.prog 20 #[(.pointer (some ⟨sb, 0, none⟩)), (.pointer (some ⟨qb, 0, none⟩)), .agg (opc kind a t.length c k)] w fun e w' => e = .returned (.bool true) ∧ ∃ st' F' G', Bd st' (N + 2) ∧ DX W0 w' sb qb st' st' F' G' E0 := by
  have HKD := hid_of hkind
  clear hkind
  have d1 : DX W0 (w.alloc (.cells (opc kind a t.length c k) 49)) sb qb st st F G ((w.heap.size, (.cells (opc kind a t.length c k) 49 (0, 0))) :: E0) := h.more ((Below.refl _ _).alloc (Nat.le_refl _) _) (Nat.le_refl _) (heap_alloc_new _ _)
  obtain ⟨W1, hW1⟩ : ∃ W1, W1 = w.alloc (.cells (opc kind a t.length c k) 49) := ⟨_, rfl⟩
  obtain ⟨ob, hob⟩ : ∃ ob, ob = w.heap.size := ⟨_, rfl⟩
  rw [← hW1, ← hob] at d1
  have HX : Hid (Gr W0 ∧ Bd st N ∧ N ≤ 900 ∧ Vw W0 a b off t ∧ t.length ≤ c ∧ (a = none → c = 0) ∧ IsH k ∧ (∀ v, Below W0.heap.size W0 v → Gr v) ∧ 2 < W0.heap.size ∧ t.length ≤ 140737488351232) := ⟨hGr, hB, hN, ht, hc, hnil, hk, fun v hv => hGr.below hv, hGr.g.big, hs⟩
  have HFB : Hid (∀ (v : World) (s1 s2 : Bst) (F' G' : Nat → Prop) (E : List (Nat × Obj)), DX W0 v sb qb s1 s2 F' G' E → 0 < t.length → ¬ F' b) := fun v s1 s2 F' G' E d h0 z => by
    have h1 := ht.lt h0
    have h2 := (d.bk.lim b z).1
    omega
  have HW : Hid (W0.heap.size ≤ ob ∧ ob < W1.heap.size) := ⟨by rw [hob]; exact h.low.size, (Array.getElem?_eq_some_iff.1 (d1.at_ (List.mem_cons_self ..))).1⟩
  have rm := roomy_any4 W1 a b off c t (ht.below d1.low) hnil (by omega)
  have c1 := (opc_cells (d1.at_ (List.mem_cons_self ..))).2.1
  have HD1 : Hid (DX W0 W1 sb qb st st F G ((ob, (.cells (opc kind a t.length c k) 49 (0, 0))) :: E0)) := d1
  clear h hGr hB hN ht hc hnil hk d1
  go_enter Tryz.func20, Tryz.ntmps20
  go_upto_region 1 with fail
  rw [← hW1, ← hob]
  clear hW1 hob
  go_wp2_with fail
  refine rm.mono ?_
  rintro _ w2 ⟨g, cap, rfl, sd, hg, b2⟩
  obtain ⟨og, hog⟩ := str_obj sd
  have d2 := HD1.out.more b2 hg hog
  have HG : Hid (W0.heap.size ≤ g ∧ ob ≠ g ∧ W0.heap.size ≤ ob ∧ ∀ p ∈ E0, p.1 ≠ g) := by
    have := HW.out
    refine ⟨by omega, by omega, this.1, fun p hp => ?_⟩
    have h1 := (Array.getElem?_eq_some_iff.1 (HD1.out.e p (List.mem_cons_of_mem _ hp)).1).1
    omega
  have HSD : Hid (∀ v : World, v.heap[g]? = some og → Str v (fun i => i = g) (.slice (some ⟨g, 0, none⟩) (t ++ mks).length cap) (t ++ mks)) := fun v hv => str_at sd (hv.trans hog.symm)
  have HCP : Hid (t.length ≤ cap) := by have := (own_row sd.own).2.1; rw [List.length_append] at this; show t.length ≤ cap; omega
  have HD2 : Hid (DX W0 w2 sb qb st st F G ((g, og) :: (ob, (.cells (opc kind a t.length c k) 49 (0, 0))) :: E0)) := d2
  have c0 := (opc_cells (d2.at_ (List.mem_cons_of_mem _ (List.mem_cons_self ..)))).1
  clear rm c1 sd hg b2 hog d2 HD1 HW
  rw [HKD.out] at c0
  have tl := told_any w2 W0.heap.size sb qb st F G HD2.out.bk HD2.out.rb HD2.out.tk (HX.out.2.1.small (by have := HX.out.2.2.1; omega)) (by have := HX.out.2.1.h; have := HX.out.2.2.1; omega) (by have := HX.out.2.1.c; have := HX.out.2.2.1; omega) (by have := HX.out.2.1.f; have := HX.out.2.2.1; omega)
  go_wp2_with fail
  refine tl.mono ?_
  rintro _ w4 ⟨rfl, k4, q4, t4⟩
  have HD4 : Hid (DX W0 w4 sb qb st st F G ((g, og) :: (ob, (.cells (opc kind a t.length c k) 49 (0, 0))) :: E0)) := HD2.out.told k4 q4 t4
  clear tl k4 q4 t4 HD2 c0
  have wh := whole_any4 w4 (fun i => i = g) g cap t (HSD.out _ (HD4.out.at_ (List.mem_cons_self ..))) a b off c (HX.out.2.2.2.1.below HD4.out.low)
  have c1 := (opc_cells (HD4.out.at_ (List.mem_cons_of_mem _ (List.mem_cons_self ..)))).2.1
  go_wp2_with fail
  refine wh.mono ?_
  rintro _ w5 ⟨rfl, q5, hw5⟩
  have d5 := HD4.out.below (by rw [hw5]; exact below_drewN (Below.refl _ _) q5 : Below w4.heap.size w4 w5)
  have HD5 : Hid (DX W0 w5 sb qb st st F G ((g, og) :: (ob, (.cells (opc kind a t.length c k) 49 (0, 0))) :: E0)) := d5
  have c0 := (opc_cells (d5.at_ (List.mem_cons_of_mem _ (List.mem_cons_self ..)))).1
  have c1 := (opc_cells (d5.at_ (List.mem_cons_of_mem _ (List.mem_cons_self ..)))).2.1
  clear wh hw5 d5 HD4
  rw [HKD.out] at c0
  by_cases h0 : 0 < t.length
  · skip
    have i1 : (0 : Int) < (t.length : Int) := by omega
    have sm := smudge_any4 w5 (fun i => i = g) g cap t (str_pre (HSD.out _ (HD5.out.at_ (List.mem_cons_self ..)))) 99 (by decide) (by omega)
    rw [show ((99 : Nat) : Int) = 99 from rfl] at sm
    go_wp2_with fail
    refine sm.mono ?_
    rintro _ w9 ⟨rfl, t9⟩
    have l9 : g < w9.heap.size := Nat.lt_of_lt_of_le (Array.getElem?_eq_some_iff.1 (HD5.out.at_ (List.mem_cons_self ..))).1 t9.size
    have d9 := HD5.out.write HG.out.1 (fun p hp => (List.mem_cons.1 hp).elim (fun e => by rw [e]; exact HG.out.2.1) (HG.out.2.2.2 p)) t9 (Array.getElem?_eq_getElem l9)
    have HD9 : Hid (DX W0 w9 sb qb st st F G E0) := d9.drop (fun p hp => List.mem_cons_of_mem _ (List.mem_cons_of_mem _ hp))
    clear t9 l9 d9 sm HD5
    go_wp2_with fail
    go_ret
    exact ⟨rfl, st, F, G, HX.out.2.1.mono (by omega), HD9.out⟩
  · skip
    have i1 : ¬ (0 : Int) < (t.length : Int) := by omega
    have sm := smudge_any4 w5 (fun i => i = g) g cap t (str_pre (HSD.out _ (HD5.out.at_ (List.mem_cons_self ..)))) 99 (by decide) (by omega)
    rw [show ((99 : Nat) : Int) = 99 from rfl] at sm
    go_wp2_with fail
    refine sm.mono ?_
    rintro _ w9 ⟨rfl, t9⟩
    have l9 : g < w9.heap.size := Nat.lt_of_lt_of_le (Array.getElem?_eq_some_iff.1 (HD5.out.at_ (List.mem_cons_self ..))).1 t9.size
    have d9 := HD5.out.write HG.out.1 (fun p hp => (List.mem_cons.1 hp).elim (fun e => by rw [e]; exact HG.out.2.1) (HG.out.2.2.2 p)) t9 (Array.getElem?_eq_getElem l9)
    have HD9 : Hid (DX W0 w9 sb qb st st F G E0) := d9.drop (fun p hp => List.mem_cons_of_mem _ (List.mem_cons_of_mem _ hp))
    clear t9 l9 d9 sm HD5
    go_wp2_with fail
    go_ret
    exact ⟨rfl, st, F, G, HX.out.2.1.mono (by omega), HD9.out⟩
set_option maxRecDepth 100000 in
set_option maxHeartbeats 6400000 in
theorem step_none (W0 w : World) (sb qb : Nat) (st : Bst) (F G : Nat → Prop) (N : Nat) (E0 : List (Nat × Obj)) (h : DX W0 w sb qb st st F G E0) (hGr : Gr W0) (hB : Bd st N) (hN : N ≤ 900) (kind : Int) (hkind : kind ≠ 1 ∧ kind ≠ 2 ∧ kind ≠ 3 ∧ kind ≠ 4) (a : Option Addr) (b off c : Nat) (t : List Nat) (ht : Vw W0 a b off t) (hc : t.length ≤ c) (hnil : a = none → c = 0) (hs : t.length ≤ 140737488351232) (k : List Nat) (hk : IsH k) :
    Calls Tryz.prog 20 #[(.pointer (some ⟨sb, 0, none⟩)), (.pointer (some ⟨qb, 0, none⟩)), .agg (opc kind a t.length c k)] w fun e w' => e = .returned (.bool true) ∧ ∃ st' F' G', Bd st' (N + 2) ∧ DX W0 w' sb qb st' st' F' G' E0 := by
  have HKD := hid_of hkind
  clear hkind
  have d1 : DX W0 (w.alloc (.cells (opc kind a t.length c k) 49)) sb qb st st F G ((w.heap.size, (.cells (opc kind a t.length c k) 49 (0, 0))) :: E0) := h.more ((Below.refl _ _).alloc (Nat.le_refl _) _) (Nat.le_refl _) (heap_alloc_new _ _)
  obtain ⟨W1, hW1⟩ : ∃ W1, W1 = w.alloc (.cells (opc kind a t.length c k) 49) := ⟨_, rfl⟩
  obtain ⟨ob, hob⟩ : ∃ ob, ob = w.heap.size := ⟨_, rfl⟩
  rw [← hW1, ← hob] at d1
  have HX : Hid (Gr W0 ∧ Bd st N ∧ N ≤ 900 ∧ Vw W0 a b off t ∧ t.length ≤ c ∧ (a = none → c = 0) ∧ IsH k ∧ (∀ v, Below W0.heap.size W0 v → Gr v) ∧ 2 < W0.heap.size ∧ t.length ≤ 140737488351232) := ⟨hGr, hB, hN, ht, hc, hnil, hk, fun v hv => hGr.below hv, hGr.g.big, hs⟩
  have HFB : Hid (∀ (v : World) (s1 s2 : Bst) (F' G' : Nat → Prop) (E : List (Nat × Obj)), DX W0 v sb qb s1 s2 F' G' E → 0 < t.length → ¬ F' b) := fun v s1 s2 F' G' E d h0 z => by
    have h1 := ht.lt h0
    have h2 := (d.bk.lim b z).1
    omega
  have HW : Hid (W0.heap.size ≤ ob ∧ ob < W1.heap.size) := ⟨by rw [hob]; exact h.low.size, (Array.getElem?_eq_some_iff.1 (d1.at_ (List.mem_cons_self ..))).1⟩
  have rm := roomy_any4 W1 a b off c t (ht.below d1.low) hnil (by omega)
  have c1 := (opc_cells (d1.at_ (List.mem_cons_self ..))).2.1
  have HD1 : Hid (DX W0 W1 sb qb st st F G ((ob, (.cells (opc kind a t.length c k) 49 (0, 0))) :: E0)) := d1
  clear h hGr hB hN ht hc hnil hk d1
  go_enter Tryz.func20, Tryz.ntmps20
  go_upto_region 1 with fail
  rw [← hW1, ← hob]
  clear hW1 hob
  go_wp2_with fail
  refine rm.mono ?_
  rintro _ w2 ⟨g, cap, rfl, sd, hg, b2⟩
  obtain ⟨og, hog⟩ := str_obj sd
  have d2 := HD1.out.more b2 hg hog
  have HG : Hid (W0.heap.size ≤ g ∧ ob ≠ g ∧ W0.heap.size ≤ ob ∧ ∀ p ∈ E0, p.1 ≠ g) := by
    have := HW.out
    refine ⟨by omega, by omega, this.1, fun p hp => ?_⟩
    have h1 := (Array.getElem?_eq_some_iff.1 (HD1.out.e p (List.mem_cons_of_mem _ hp)).1).1
    omega
  have HSD : Hid (∀ v : World, v.heap[g]? = some og → Str v (fun i => i = g) (.slice (some ⟨g, 0, none⟩) (t ++ mks).length cap) (t ++ mks)) := fun v hv => str_at sd (hv.trans hog.symm)
  have HCP : Hid (t.length ≤ cap) := by have := (own_row sd.own).2.1; rw [List.length_append] at this; show t.length ≤ cap; omega
  have HD2 : Hid (DX W0 w2 sb qb st st F G ((g, og) :: (ob, (.cells (opc kind a t.length c k) 49 (0, 0))) :: E0)) := d2
  have c0 := (opc_cells (d2.at_ (List.mem_cons_of_mem _ (List.mem_cons_self ..)))).1
  clear rm c1 sd hg b2 hog d2 HD1 HW
  have n1 : (kind == 1) = false := by simp [HKD.out.1]
  have n2 : (kind == 2) = false := by simp [HKD.out.2.1]
  have n3 : (kind == 3) = false := by simp [HKD.out.2.2.1]
  have n4 : (kind == 4) = false := by simp [HKD.out.2.2.2]
  have wh := whole_any4 w2 (fun i => i = g) g cap t (HSD.out _ (HD2.out.at_ (List.mem_cons_self ..))) a b off c (HX.out.2.2.2.1.below HD2.out.low)
  have c1 := (opc_cells (HD2.out.at_ (List.mem_cons_of_mem _ (List.mem_cons_self ..)))).2.1
  go_wp2_with fail
  refine wh.mono ?_
  rintro _ w5 ⟨rfl, q5, hw5⟩
  have d5 := HD2.out.below (by rw [hw5]; exact below_drewN (Below.refl _ _) q5 : Below w2.heap.size w2 w5)
  have HD5 : Hid (DX W0 w5 sb qb st st F G ((g, og) :: (ob, (.cells (opc kind a t.length c k) 49 (0, 0))) :: E0)) := d5
  have c0 := (opc_cells (d5.at_ (List.mem_cons_of_mem _ (List.mem_cons_self ..)))).1
  have c1 := (opc_cells (d5.at_ (List.mem_cons_of_mem _ (List.mem_cons_self ..)))).2.1
  clear wh hw5 d5 HD2
  by_cases h0 : 0 < t.length
  · skip
    have i1 : (0 : Int) < (t.length : Int) := by omega
    have sm := smudge_any4 w5 (fun i => i = g) g cap t (str_pre (HSD.out _ (HD5.out.at_ (List.mem_cons_self ..)))) 99 (by decide) (by omega)
    rw [show ((99 : Nat) : Int) = 99 from rfl] at sm
    go_wp2_with fail
    refine sm.mono ?_
    rintro _ w9 ⟨rfl, t9⟩
    have l9 : g < w9.heap.size := Nat.lt_of_lt_of_le (Array.getElem?_eq_some_iff.1 (HD5.out.at_ (List.mem_cons_self ..))).1 t9.size
    have d9 := HD5.out.write HG.out.1 (fun p hp => (List.mem_cons.1 hp).elim (fun e => by rw [e]; exact HG.out.2.1) (HG.out.2.2.2 p)) t9 (Array.getElem?_eq_getElem l9)
    have HD9 : Hid (DX W0 w9 sb qb st st F G E0) := d9.drop (fun p hp => List.mem_cons_of_mem _ (List.mem_cons_of_mem _ hp))
    clear t9 l9 d9 sm HD5
    go_wp2_with fail
    go_ret
    exact ⟨rfl, st, F, G, HX.out.2.1.mono (by omega), HD9.out⟩
  · skip
    have i1 : ¬ (0 : Int) < (t.length : Int) := by omega
    have sm := smudge_any4 w5 (fun i => i = g) g cap t (str_pre (HSD.out _ (HD5.out.at_ (List.mem_cons_self ..)))) 99 (by decide) (by omega)
    rw [show ((99 : Nat) : Int) = 99 from rfl] at sm
    go_wp2_with fail
    refine sm.mono ?_
    rintro _ w9 ⟨rfl, t9⟩
    have l9 : g < w9.heap.size := Nat.lt_of_lt_of_le (Array.getElem?_eq_some_iff.1 (HD5.out.at_ (List.mem_cons_self ..))).1 t9.size
    have d9 := HD5.out.write HG.out.1 (fun p hp => (List.mem_cons.1 hp).elim (fun e => by rw [e]; exact HG.out.2.1) (HG.out.2.2.2 p)) t9 (Array.getElem?_eq_getElem l9)
    have HD9 : Hid (DX W0 w9 sb qb st st F G E0) := d9.drop (fun p hp => List.mem_cons_of_mem _ (List.mem_cons_of_mem _ hp))
    clear t9 l9 d9 sm HD5
    go_wp2_with fail
    go_ret
    exact ⟨rfl, st, F, G, HX.out.2.1.mono (by omega), HD9.out⟩

/-- A STEP, of whatever kind -/
theorem step_any (W0 w : World) (sb qb : Nat) (st : Bst) (F G : Nat → Prop) (N : Nat) (E0 : List (Nat × Obj)) (h : DX W0 w sb qb st st F G E0) (hGr : Gr W0) (hB : Bd st N) (hN : N ≤ 900) (kind : Int) (a : Option Addr) (b off c : Nat) (t : List Nat) (ht : Vw W0 a b off t) (hc : t.length ≤ c) (hnil : a = none → c = 0) (hs : t.length ≤ 140737488351232) (k : List Nat) (hk : IsH k) :
    Calls Tryz.prog 20 #[(.pointer (some ⟨sb, 0, none⟩)), (.pointer (some ⟨qb, 0, none⟩)), .agg (opc kind a t.length c k)] w fun e w' => e = .returned (.bool true) ∧ ∃ st' F' G', Bd st' (N + 2) ∧ DX W0 w' sb qb st' st' F' G' E0 := by
  by_cases h1 : kind = 1
  · exact step_one W0 w sb qb st F G N E0 h hGr hB hN kind h1 a b off c t ht hc hnil hs k hk
  by_cases h2 : kind = 2
  · exact step_two W0 w sb qb st F G N E0 h hGr hB hN kind h2 a b off c t ht hc hnil hs k hk
  by_cases h3 : kind = 3
  · by_cases e : kc st.cbits st.S t = k
    · by_cases q : t ∈ st.LC
      · exact step_three_own W0 w sb qb st F G N E0 h hGr hB hN kind a b off c t ht hc hnil hs k hk ⟨h3, e, q⟩
      · exact step_three_forge W0 w sb qb st F G N E0 h hGr hB hN kind a b off c t ht hc hnil hs k hk ⟨h3, e, q⟩
    · exact step_three_no W0 w sb qb st F G N E0 h hGr hB hN kind a b off c t ht hc hnil hs k hk ⟨h3, e⟩
  by_cases h4 : kind = 4
  · exact step_four W0 w sb qb st F G N E0 h hGr hB hN kind h4 a b off c t ht hc hnil hs k hk
  · exact step_none W0 w sb qb st F G N E0 h hGr hB hN kind ⟨h1, h2, h3, h4⟩ a b off c t ht hc hnil hs k hk
end Go.Proofs.YtlhllbggnpcoaaaGreatDoor

/-
  cairnref04.New.
-/
namespace Go.Proofs.YtlhllbggnpcoaaaGreatDoor
open Go.RowKit Go.Sort Go.Maps

theorem rnew_bits (w : World) (n m : Int) (v : Value) (h : n < 8 ∨ 256 < n ∨ m < 8 ∨ 256 < m) : Calls Tryz.prog 17 #[.int .i64 n, .int .i64 m, v] w fun e w' => e = .returned (.tuple #[.pointer none, .int .i64 40]) ∧ w' = w := by
  by_cases h1 : n < 8
  · go_enter Tryz.func17, Tryz.ntmps17
    go_wp2_with fail
    go_ret2
    exact ⟨rfl, rfl⟩
  · by_cases h2 : 256 < n
    · go_enter Tryz.func17, Tryz.ntmps17
      go_wp2_with fail
      go_ret2
      exact ⟨rfl, rfl⟩
    · by_cases h3 : m < 8
      · go_enter Tryz.func17, Tryz.ntmps17
        go_wp2_with fail
        go_ret2
        exact ⟨rfl, rfl⟩
      · have h4 : 256 < m := by omega
        go_enter Tryz.func17, Tryz.ntmps17
        go_wp2_with fail
        go_ret2
        exact ⟨rfl, rfl⟩
theorem rnew_key (w : World) (n m : Nat) (a : Option Addr) (l c : Nat) (h1 : 8 ≤ n ∧ n ≤ 256) (h2 : 8 ≤ m ∧ m ≤ 256) (hl : l ≠ 32) : Calls Tryz.prog 17 #[.int .i64 n, .int .i64 m, .slice a l c] w fun e w' => e = .returned (.tuple #[.pointer none, .int .i64 41]) ∧ w' = w := by
  have a1 : ¬ (n : Int) < 8 := by omega
  have a2 : ¬ 256 < (n : Int) := by omega
  have a3 : ¬ (m : Int) < 8 := by omega
  have a4 : ¬ 256 < (m : Int) := by omega
  have a5 : ((l : Int) == 32) = false := by simp; omega
  go_enter Tryz.func17, Tryz.ntmps17
  go_wp2_with fail
  go_ret2
  exact ⟨rfl, rfl⟩

set_option maxRecDepth 100000 in
set_option maxHeartbeats 1600000 in
theorem rnew_ok (w : World) (n m : Nat) (a : Option Addr) (b off c : Nat) (s : List Nat) (hv : Vw w a b off s) (hnil : a = none → c = 0) (h1 : 8 ≤ n ∧ n ≤ 256) (h2 : 8 ≤ m ∧ m ≤ 256) (hl : s.length = 32) (B : Nat) (hB : B ≤ w.heap.size) :
    Calls Tryz.prog 17 #[.int .i64 n, .int .i64 m, .slice a 32 c] w fun e w' => ∃ qb G, e = .returned (.tuple #[.pointer (some ⟨qb, 0, none⟩), .int .i64 0]) ∧ Below w.heap.size w w' ∧ RB w' B qb ⟨n, m, gd s, [], [], []⟩ G ∧ w.heap.size ≤ qb ∧ ∀ i, G i → w.heap.size ≤ i := by
  have a1 : ¬ (n : Int) < 8 := by omega
  have a2 : ¬ 256 < (n : Int) := by omega
  have a3 : ¬ (m : Int) < 8 := by omega
  have a4 : ¬ 256 < (m : Int) := by omega
  have own0 := World.ownsRow_lit (base := w.heap.size) (e := 5) (size := 1) w #[] 0 (Nat.le_refl _) (by decide) rfl
  have v0 : Vw (w.alloc (.cells #[] 5)) a b off s := hv.below ((Below.refl _ _).alloc (Nat.le_refl _) _)
  have v0' : View (w.alloc (.cells #[] 5)) a b off 32 (fun i => ((gd s i : Nat) : Int)) := by
    have := v0
    unfold Vw at this
    rw [hl] at this
    exact this
  have HV : Hid (View (w.alloc (.cells #[] 5)) a b off 32 (fun i => ((gd s i : Nat) : Int)) ∧ Bs s ∧ s.length = 32 ∧ (8 ≤ n ∧ n ≤ 256) ∧ (8 ≤ m ∧ m ≤ 256) ∧ B ≤ w.heap.size ∧ (w.alloc (.cells #[] 5)).ownsRow w.heap.size 5 1 (.slice (some ⟨w.heap.size, 0, none⟩) 0 0) 0 []) := ⟨v0', vw_ok hv, hl, h1, h2, hB, own0⟩
  clear hv v0 v0' own0 h1 h2 hl hB
  go_enter Tryz.func17, Tryz.ntmps17
  go_wp2_with (at_builtin; refine wpList_append_bytes (by rfl) (.tmp 27) (.tmp 28) (by rfl) w.heap.size _ 0 [] (by rfl) HV.out.2.2.2.2.2.2 a b off 32 c _ (by rfl) HV.out.1 hnil (by decide) (by simp) ?_; intro v1 w1 own1 gr1 nn1; rw [Nat.zero_add] at own1; obtain ⟨g, cap, e1, hg, hlt⟩ := own1.form (by decide); subst e1)
  have b1 : Below w.heap.size w w1 := ((Below.refl _ _).alloc (Nat.le_refl _) _).trans (grown_below gr1 HV.out.2.2.2.2.2.2 (Nat.le_refl _) (by simp))
  have own1' : w1.ownsRow w.heap.size 5 1 (.slice (some ⟨g, 0, none⟩) 32 cap) 32 (vals (fun i => ((gd s i : Nat) : Int)) 32) := by simpa using own1
  go_ret2
  have be : Below w1.heap.size w1 (w1.alloc (.cells #[.int .i64 (n : Nat), .int .i64 (m : Nat), .slice (some ⟨g, 0, none⟩) 32 cap, .slice none 0 0, .slice none 0 0, .slice none 0 0] 79)) := (Below.refl _ _).alloc (Nat.le_refl _) _
  have b2 := b1.trans (be.mono b1.size)
  obtain ⟨a', g', c', e, vw, _, ha⟩ := view_own own1' (fun i _ => by have := gd_lt HV.out.2.1.2 i; omega) (by decide)
  injection e with e1 _ e3
  have e2 := (ha (by rw [← e1]; simp)).2
  rw [← e1] at e2
  have e2 := Option.some.inj e2
  injection e2 with e2
  subst e2
  refine ⟨w1.heap.size, rfl, b2, fun i => i = g, ⟨some ⟨g, 0, none⟩, g, cap, none, 0, none, 0, none, 0, [], [], [], ?_⟩, b1.size, fun i q => q ▸ hg⟩
  refine ⟨⟨_, heap_alloc_new _ _, rfl, fun i hi => ?_⟩, ?_, rfl, NL.nil _ _, NL.nil _ _, NL.nil _ _, rfl, rfl, rfl, fun q hq => by simp at hq, fun q hq => by simp at hq, fun q hq => by simp at hq, List.Pairwise.nil, List.Pairwise.nil, List.Pairwise.nil, fun i q => ?_, Nat.le_trans HV.out.2.2.2.2.2.1 b1.size, fun q => ?_, HV.out.2.2.2.1, HV.out.2.2.2.2.1, fun i => gd_lt HV.out.2.1.2 i⟩
  · rcases (by omega : i = 0 ∨ i = 1 ∨ i = 2 ∨ i = 3 ∨ i = 4 ∨ i = 5) with rfl | rfl | rfl | rfl | rfl | rfl <;> rfl
  · rw [← e1] at vw
    exact vw.below be
  · subst q
    have := HV.out.2.2.2.2.2.1
    exact ⟨by omega, Nat.lt_of_lt_of_le hlt be.size⟩
  · have q : w1.heap.size = g := q
    omega
end Go.Proofs.YtlhllbggnpcoaaaGreatDoor
