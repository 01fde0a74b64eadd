import Derived.Test.YtddpcoglbmlgcaaGreatDoorNRwzz
import Derived.Defers
import Derived.Recover
import Derived.Laws.Pointers
/-
  Decode: what is caught.
-/
namespace Go.Proofs.YtddpcoglbmlgcaaGreatDoor
open Go.RowKit
theorem infoF2 : (Tryz.prog.info? 164).map (·.size) = some 2 := by kernel_rfl
theorem typeAssertF (v : Value) (w : World) : (Instr.typeAssert (.iface 164 v) 20 164 true).run Tryz.prog w = .ok (.tuple #[v, .bool true]) w := by
  simp [Instr.typeAssert, run_underlying Tryz.underlying164, go_sem, Result.andThen]
set_option maxRecDepth 100000 in
set_option maxHeartbeats 1600000 in
theorem faultOf_any (w : World) (p c : Nat) : Calls Tryz.prog 91 #[.iface 164 (.agg #[.int .i64 p, .int .i64 c])] w fun e w' => e = .returned (.agg #[.int .i64 p, .int .i64 c]) ∧ Below w.heap.size w w' := by
  have hta := typeAssertF
  go_enter Tryz.func91, Tryz.ntmps91
  go_wp2_with fail
  refine bodyPost_ret (v := .agg #[.int .i64 p, .int .i64 c]) ?_ rfl ⟨rfl, ((below_alloc _ _).alloc (by simp) _)⟩
  exact results_cell_row rfl _ _ w.heap.size 164 #[.int .i64 p, .int .i64 c] (0, 0) _ rfl ((heap_alloc_old _ _ (by simp)).trans (heap_alloc_new _ _)) Tryz.underlying164 rfl infoF2
/-- the three results' variables -/
structure Rs (w : World) (g : Nat) (x y z : Value) (pl er : Int) : Prop where
  item : Bx w g 134 x y z
  place : w.heap[g + 1]? = some (.cells #[.int .i64 pl] 3 (0, 0))
  errno : w.heap[g + 2]? = some (.cells #[.int .i64 er] 36 (0, 0))
theorem one_set {w : World} {k : Nat} {v v' : Value} {t : TypeId} (h : w.heap[k]? = some (.cells #[v] t (0, 0))) : (w.setCell ⟨k, 0, none⟩ v').heap[k]? = some (.cells #[v'] t (0, 0)) := by
  simp only [World.setCell, Array.getElem?_modify, if_true]
  rw [h]
  rfl
theorem Rs.write {w : World} {g : Nat} {x y z x' y' z' : Value} {pl er pl' er' : Int} (h : Rs w g x y z pl er) : Rs (((set3 w g x' y' z').setCell ⟨g + 1, 0, none⟩ (.int .i64 pl')).setCell ⟨g + 2, 0, none⟩ (.int .i64 er')) g x' y' z' pl' er' ∧ Below g w (((set3 w g x' y' z').setCell ⟨g + 1, 0, none⟩ (.int .i64 pl')).setCell ⟨g + 2, 0, none⟩ (.int .i64 er')) := by
  have t1 := set3_turn w g x' y' z'
  have h2 : g + 2 < w.heap.size := (Array.getElem?_eq_some_iff.1 h.errno).1
  refine ⟨⟨?_, ?_, ?_⟩, ?_⟩
  · refine (h.item.set3).keep ?_
    rw [Below.heap_setCell _ _ _ _ (by show g ≠ g + 2; omega), Below.heap_setCell _ _ _ _ (by show g ≠ g + 1; omega)]
  · rw [Below.heap_setCell _ _ _ _ (by show g + 1 ≠ g + 2; omega)]
    exact one_set ((t1.block _ (by omega) (by omega)).trans h.place)
  · refine one_set (v := .int .i64 er) ?_
    rw [Below.heap_setCell _ _ _ _ (by show g + 2 ≠ g + 1; omega), t1.block _ (by omega) (by omega)]
    exact h.errno
  · exact ((t1.below (B := g) (fun i q => by omega) (by omega)).setCell (by show g ≤ g + 1; omega) _).setCell (by show g ≤ g + 2; omega) _
set_option maxRecDepth 100000 in
set_option maxHeartbeats 1600000 in
theorem catch_panicking (g p c : Nat) (x y z : Value) (pl er : Int) (older : List PanicEntry) (w : World) (h : Rs w g x y z pl er) :
    CallsD Tryz.prog 90 #[.pointer (some ⟨g, 0, none⟩), .pointer (some ⟨g + 1, 0, none⟩), .pointer (some ⟨g + 2, 0, none⟩)] (.panicking (flt p c :: older)) w fun e u' w' =>
      e = .returned (.tuple #[]) ∧ u' = .panicking ({ flt p c with recovered := true } :: older) ∧ Rs w' g (.bool false) (.slice none 0 0) (.slice none 0 0) p c ∧ Below g w w' := by
  have KF := faultOf_any w p c
  refine callsD_of_wpS Tryz.func90 rfl fun c₀ cs hu => ?_
  apply wpS_seq
  apply wpS_region
  simp [wpOpsS, go_sem, recoverD, hu, flt, Tryz.ntmps90, Exit.thenS]
  refine wpS_of_wp ?_
  have e12 : Array.replicate 12 undef = #[undef, undef, undef, undef, undef, undef, undef, undef, undef, undef, undef, undef] := rfl
  simp only [e12, List.setIfInBounds_toArray, List.set_cons_zero, List.set_cons_succ, List.append_toArray, List.cons_append, List.nil_append]
  clear e12
  go_wp2_with (go_at_call 91; refine KF.mono ?_; rintro e w1 ⟨rfl, hb1⟩)
  have z2 : g + 2 < w.heap.size := (Array.getElem?_eq_some_iff.1 h.errno).1
  obtain ⟨W, eW⟩ : ∃ W, W = w1.alloc (.cells #[.int .i64 p, .int .i64 c] 164) := ⟨_, rfl⟩
  have bW : Below w.heap.size w W := by rw [eW]; exact ch hb1 (below_alloc _ _)
  have hx : Bx W g 134 x y z := h.item.keep (bW.block _ (by omega))
  have hp := (bW.block (g + 1) (by omega)).trans h.place
  have he := (bW.block (g + 2) (by omega)).trans h.errno
  have hf : W.heap[w1.heap.size]? = some (.cells #[.int .i64 p, .int .i64 c] 164 (0, 0)) := by rw [eW]; exact heap_alloc_new _ _
  obtain ⟨x0, x1, x2, xf⟩ := hx.cells
  have xf0 := xf 0
  have xf1 := xf 1
  have xf2 := xf 2
  have p0 : W.cell? ⟨g + 1, 0, none⟩ = some (.int .i64 pl) := cell_of_row _ _ _ _ _ _ hp
  have e0 : W.cell? ⟨g + 2, 0, none⟩ = some (.int .i64 er) := cell_of_row _ _ _ _ _ _ he
  have f0 : W.cell? ⟨w1.heap.size, 0, none⟩ = some (.int .i64 p) := cell_of_row _ _ _ _ _ _ hf
  have f1 : W.cell? ⟨w1.heap.size, 1, none⟩ = some (.int .i64 c) := cell_of_row _ _ _ _ _ _ hf
  have fr : ∀ (k : Nat) (cs : Array Value) (t : TypeId), W.heap[k]? = some (.cells cs t (0, 0)) → W.frozen? ⟨k, 0, none⟩ = false := fun k cs t hk => by
    have r : W.rowIs k t cs.size (fun i => cs.getD i (.bool true)) := ⟨_, hk, rfl, fun i hi => by
      show _ = some (cs.getD i (.bool true))
      rw [Array.getD_eq_getD_getElem?, Array.getElem?_eq_getElem (by simpa using hi)]
      rfl⟩
    exact r.frozen 0
  have pf := fr _ _ _ hp
  have ef := fr _ _ _ he
  rw [← eW]
  have n1 : ¬ w1.heap.size = g := by have := hb1.size; omega
  have n2 : ¬ w1.heap.size = g + 1 := by have := hb1.size; omega
  have n3 : ¬ w1.heap.size = g + 2 := by have := hb1.size; omega
  have m1 : ¬ g = w1.heap.size := by have := hb1.size; omega
  have m2 : ¬ g + 1 = w1.heap.size := by have := hb1.size; omega
  have m3 : ¬ g + 2 = w1.heap.size := by have := hb1.size; omega
  have HH : Hid (Bx W g 134 x y z ∧ W.heap[g + 1]? = some (.cells #[.int .i64 pl] 3 (0, 0)) ∧ W.heap[g + 2]? = some (.cells #[.int .i64 er] 36 (0, 0)) ∧ Below w.heap.size w W ∧ g + 2 < w.heap.size) := ⟨hx, hp, he, bW, z2⟩
  clear hx hp he hf fr xf eW bW h KF hb1
  go_region_held3 (fun w' => w'.cell? ⟨w1.heap.size, 0, none⟩ = some (.int .i64 p) ∧ w'.cell? ⟨w1.heap.size, 1, none⟩ = some (.int .i64 c)) (first | go_keep | (constructor <;> simp_all)) (fail)
  have hR : Rs W g x y z pl er := ⟨HH.out.1, HH.out.2.1, HH.out.2.2.1⟩
  have hw := hR.write (x' := .bool false) (y' := .slice none 0 0) (z' := .slice none 0 0) (pl' := p) (er' := c)
  have hb : Below g w W := HH.out.2.2.2.1.mono (by have := HH.out.2.2.2.2; omega)
  exact ⟨rfl, _, rfl, .tuple #[], results_none rfl _ _ _, rfl, rfl, ⟨hw.1.item, hw.1.place, hw.1.errno⟩, (hb.trans hw.2).drew⟩
set_option maxRecDepth 100000 in
set_option maxHeartbeats 1600000 in
theorem catch_idle (g : Nat) (w : World) :
    CallsD Tryz.prog 90 #[.pointer (some ⟨g, 0, none⟩), .pointer (some ⟨g + 1, 0, none⟩), .pointer (some ⟨g + 2, 0, none⟩)] .returning w fun e u' w' => e = .returned (.tuple #[]) ∧ u' = .returning ∧ w' = w := by
  refine callsD_of_wpS Tryz.func90 rfl fun c₀ cs hu => ?_
  apply wpS_seq
  apply wpS_region
  simp [wpOpsS, go_sem, recoverD, hu, Tryz.ntmps90, Exit.thenS]
  refine wpS_of_wp ?_
  have e12 : Array.replicate 12 undef = #[undef, undef, undef, undef, undef, undef, undef, undef, undef, undef, undef, undef] := rfl
  simp only [e12, List.setIfInBounds_toArray, List.set_cons_zero, List.set_cons_succ, List.append_toArray, List.cons_append, List.nil_append]
  clear e12
  go_wp2_with fail
  cases c₀
  simp only at hu
  subst hu
  exact ⟨rfl, .returning, rfl, .tuple #[], results_none rfl _ _ _, rfl, rfl, rfl⟩
end Go.Proofs.YtddpcoglbmlgcaaGreatDoor
