import Derived.Test.YthndmkhdcgdloaaGreatDoorHkq
/-
  GrowNone: what is nil.
-/
namespace Go.Proofs.YthndmkhdcgdloaaGreatDoor
open Go.RowKit Go.Maps
theorem gnum (w : World) (n : Int) : Calls Tryz.prog 20 #[.int .i64 n] w fun e w' => e = .returned (.int .i64 n) ∧ w' = w := by
  go_enter Tryz.func20, Tryz.ntmps20
  go_wp2
  go_ret
  exact ⟨rfl, rfl⟩
set_option maxRecDepth 100000 in
theorem gapply_nil (w : World) (cs : List Value) (v : Value) : Calls Tryz.prog 14 #[.pointer none, .agg cs.toArray, v] w fun e w' => ∃ u : List Value, e = .returned (.tuple #[.agg u.toArray, .int .i64 1]) ∧ Hc u ∧ Below w.heap.size w w' := by
  obtain ⟨zz, hl, hz, hb⟩ := zed
  obtain ⟨W, eW⟩ : ∃ W, W = ((w.alloc (.cells cs.toArray 24)).alloc (.cells zz.toArray 24)).alloc (.cells #[.int .i64 0] 25) := ⟨_, rfl⟩
  have g1 : W.heap[w.heap.size + 1]? = some (.cells zz.toArray 24 (0, 0)) := by
    rw [eW, heap_alloc_old _ _ (by simp)]
    have := heap_alloc_new (w.alloc (.cells cs.toArray 24)) (.cells zz.toArray 24)
    simpa using this
  have g2 : W.heap[w.heap.size + 1 + 1]? = some (.cells #[.int .i64 0] 25 (0, 0)) := by
    rw [eW]
    have := heap_alloc_new ((w.alloc (.cells cs.toArray 24)).alloc (.cells zz.toArray 24)) (.cells #[.int .i64 0] 25)
    simpa using this
  have B : Hid (Below w.heap.size w W) := by
    rw [eW]
    exact nch (nch (nal _ _) (nal _ _)) (nal _ _)
  have g3 : (W.setRow (w.heap.size + 1) zz.toArray).heap[w.heap.size + 1 + 1]? = some (.cells #[.int .i64 0] 25 (0, 0)) := (setRow_other W _ _ _ (by omega)).trans g2
  have c3 : (W.setRow (w.heap.size + 1) zz.toArray).cell? ⟨w.heap.size + 1 + 1, 0, none⟩ = some (.int .i64 0) := by rw [cell_of_row _ _ _ _ _ _ g3]; rfl
  have f3 : (W.setRow (w.heap.size + 1) zz.toArray).frozen? ⟨w.heap.size + 1 + 1, 0, none⟩ = false := blk_frz g3 0
  have g4 := setRow_heap W (w.heap.size + 1) zz.toArray zz.toArray _ _ g1
  have HE : Hid (W = ((w.alloc (.cells cs.toArray 24)).alloc (.cells zz.toArray 24)).alloc (.cells #[.int .i64 0] 25)) := eW
  have HG : Hid ((W.setRow (w.heap.size + 1) zz.toArray).heap[w.heap.size + 1]? = some (.cells zz.toArray 24 (0, 0)) ∧ (W.setRow (w.heap.size + 1) zz.toArray).heap[w.heap.size + 1 + 1]? = some (.cells #[.int .i64 0] 25 (0, 0))) := ⟨g4, g3⟩
  clear eW g2 g3 g4
  go_enter Tryz.func14, Tryz.ntmps14
  go_wp2_with (first
    | refine wpList_bdL (by kernel_rfl) 24 [] (by rfl) zz.toArray hb ?_
    | (rw [← HE.out]; refine wpList_stB (by kernel_rfl) 24 _ _ (by rfl) (w.heap.size + 1) zz zz (by rw [hl.len]; exact iH) rfl hl.one g1 (by rfl) (by rfl) ?_; obtain ⟨V, eV⟩ : ∃ V, V = W.setRow (w.heap.size + 1) zz.toArray := ⟨_, rfl⟩; rw [← eV]; rw [← eV] at c3 f3; have HV : Hid (V = W.setRow (w.heap.size + 1) zz.toArray) := eV; clear eV))
  have g5 := HG.out
  rw [← HV.out] at g5
  have g6 := one_setCell (u := .int .i64 1) g5.2
  have g7 := (Below.heap_setCell V ⟨w.heap.size + 1 + 1, 0, none⟩ (.int .i64 1) (w.heap.size + 1) (by simp)).trans g5.1
  have c7 : (V.setCell ⟨w.heap.size + 1 + 1, 0, none⟩ (.int .i64 1)).cell? ⟨w.heap.size + 1 + 1, 0, none⟩ = some (.int .i64 1) := by rw [cell_of_row _ _ _ _ _ _ g6]; rfl
  refine bodyPost_ret (resCC rfl _ _ (w.heap.size + 1) (w.heap.size + 1 + 1) _ _ rfl rfl (ldH (cs := zz) (rng_row g7) hl) (ldE c7)) rfl ⟨zz, rfl, hl, ?_⟩
  refine Below.setCell ?_ (by simp; omega) _
  rw [HV.out]
  exact below_setRow B.out (by omega) _
theorem gnode_nil (w : World) (cs : List Value) : Calls Tryz.prog 11 #[.pointer none, .agg cs.toArray] w fun e w' => e = .returned (.tuple #[.slice none 0 0, .int .i64 1]) ∧ Below w.heap.size w w' := by
  go_enter Tryz.func11, Tryz.ntmps11
  go_wp2
  go_ret2
  exact ⟨rfl, nal _ _⟩
theorem greach_nil (w : World) (cs : List Value) : Calls Tryz.prog 15 #[.pointer none, .agg cs.toArray] w fun e w' => e = .returned (.tuple #[.slice none 0 0, .int .i64 1]) ∧ Below w.heap.size w w' := by
  go_enter Tryz.func15, Tryz.ntmps15
  go_wp2
  go_ret2
  exact ⟨rfl, nal _ _⟩
theorem glen_nil (w : World) : Calls Tryz.prog 16 #[.pointer none] w fun e w' => e = .returned (.int .i64 0) ∧ w' = w := by
  go_enter Tryz.func16, Tryz.ntmps16
  go_wp2
  go_ret
  exact ⟨rfl, rfl⟩
theorem gnew_src (w : World) (p : Option Addr) : Calls Tryz.prog 9 #[.nilIface, .pointer p] w fun e w' => e = .returned (.tuple #[.pointer none, .int .i64 1]) ∧ w' = w := by
  go_enter Tryz.func9, Tryz.ntmps9
  go_wp2
  go_ret2
  exact ⟨rfl, rfl⟩
theorem gnew_book (w : World) (t : TypeId) (p : Option Addr) : Calls Tryz.prog 9 #[.iface t (.pointer p), .pointer none] w fun e w' => e = .returned (.tuple #[.pointer none, .int .i64 1]) ∧ w' = w := by
  go_enter Tryz.func9, Tryz.ntmps9
  go_wp2
  go_ret2
  exact ⟨rfl, rfl⟩
set_option maxRecDepth 100000 in
set_option maxHeartbeats 1600000 in
theorem gput_nil (w : World) (cs : List Value) (hc : Hc cs) (ka va : Option Addr) (kn kc vn vc : Nat) : Calls Tryz.prog 12 #[.pointer none, .agg cs.toArray, .slice ka kn kc, .slice va vn vc] w fun e w' => ∃ u : List Value, e = .returned (.tuple #[.agg u.toArray, .int .i64 1]) ∧ Hc u ∧ Below w.heap.size w w' := by
  obtain ⟨zz, hl, hz, hb⟩ := zed
  obtain ⟨W, eW⟩ : ∃ W, W = (w.alloc (.cells cs.toArray 24)).alloc (.cells zz.toArray 24) := ⟨_, rfl⟩
  have g0 : W.rangeAt w.heap.size 0 cs := by
    rw [eW]
    exact rng_row ((heap_alloc_old _ _ (by simp)).trans (heap_alloc_new _ _))
  have g1 : W.heap[w.heap.size + 1]? = some (.cells zz.toArray 24 (0, 0)) := by
    rw [eW]
    have := heap_alloc_new (w.alloc (.cells cs.toArray 24)) (.cells zz.toArray 24)
    simpa using this
  have B : Hid (Below w.heap.size w W) := by
    rw [eW]
    exact nch (nal _ _) (nal _ _)
  have HE : Hid (W = (w.alloc (.cells cs.toArray 24)).alloc (.cells zz.toArray 24)) := eW
  clear eW
  go_enter Tryz.func12, Tryz.ntmps12
  go_wp2_with (first
    | (rw [← HE.out]; refine wpList_load_mid_g (by kernel_rfl) 24 _ (by rfl) w.heap.size 0 (by rfl) cs _ g0 Tryz.underlying24 rfl (by rw [hc.len]; exact iH) ?_)
    | (go_at_call 14; refine (gapply_nil _ cs _).mono ?_; rintro _ w2 ⟨u, rfl, hu, b2⟩; have b3 : Below W.heap.size W w2 := nch (nal _ _) b2; have g2 := (b3.block _ (Array.getElem?_eq_some_iff.1 g1).1).trans g1; have H2 : Hid (Hc u ∧ Below w.heap.size w w2 ∧ w2.heap[w.heap.size + 1]? = some (.cells zz.toArray 24 (0, 0))) := ⟨hu, nch B.out b3, g2⟩; clear b2 b3 hu)
    | refine wpList_stB (by kernel_rfl) 24 _ _ (by rfl) (w.heap.size + 1) u zz (by rw [H2.out.1.len]; exact iH) (by rw [H2.out.1.len, hl.len]) H2.out.1.one g2 (by rfl) (by rfl) ?_)
  refine bodyPost_ret (resCT rfl _ _ (w.heap.size + 1) _ _ rfl rfl (ldH (cs := u) (rng_row (setRow_heap _ _ _ _ _ _ H2.out.2.2)) H2.out.1)) rfl ⟨u, rfl, H2.out.1, below_setRow H2.out.2.1 (by omega) _⟩
end Go.Proofs.YthndmkhdcgdloaaGreatDoor
