/-
  ShaKnown.
-/
import Derived.Test.YtdhenfepfkmhhaaDoorAwake
import Derived.Test.YtdhenfepfkmhhaaDoorEqH
namespace Go.Proofs.YtdhenfepfkmhhaaDoor
open Go.RowKit

theorem Z32_at {w : World} {g : Nat} (h : w.heap[g]? = some (.cells Z32 26 (0, 0))) (j : Nat) (hj : j < 32) : w.cell? ⟨g, j, none⟩ = some (.int .u8 0) := by
  rw [cell_of_row w g j Z32 26 (0, 0) h, Z32_rep, Array.getElem?_replicate, if_pos hj]

set_option maxRecDepth 100000 in
set_option maxHeartbeats 1600000 in
theorem known_any (w : World) (hg : Ground w) :
    Calls Tryd.prog 3 #[] w fun e w' => e = .returned (.bool true) ∧ Below w.heap.size w w' := by
  have HG : Hid (Ground w) := hg
  clear hg
  have B1 : Hid (Below w.heap.size w (w.alloc (.cells #[.int .u8 1] 5))) := (Below.refl _ _).alloc (Nat.le_refl _) _
  go_enter Tryd.func3, Tryd.ntmps3
  go_wp2_with fail
  refine (write_nil _ _).mono ?_
  rintro _ w1 ⟨rfl, hw1⟩
  have B2 : Hid (Below w.heap.size w w1) := by rw [hw1]; exact B1.out
  clear hw1 B1
  go_wp2_with fail
  refine (sum_nil _).mono ?_
  rintro _ w2 ⟨rfl, hb2⟩
  have B3 : Hid (Below w.heap.size w ((w2.alloc (.cells Z32 26)).setRow w2.heap.size Z32) ∧ ((w2.alloc (.cells Z32 26)).setRow w2.heap.size Z32).heap[w2.heap.size]? = some (.cells Z32 26 (0, 0))) :=
    ⟨below_setRow ((B2.out.trans (hb2.mono B2.out.size)).alloc (Nat.le_trans B2.out.size hb2.size) _) (Nat.le_trans B2.out.size hb2.size) _, setRow_heap _ _ _ _ _ _ (heap_alloc_new _ _)⟩
  clear hb2 B2
  go_wp2_with (refine wpList_store_row (by rfl) 26 (.tmp 2) (.tmp 9) (by rfl) w2.heap.size Z32 (by rfl) (by rfl) 26 Z32 (heap_alloc_new _ _) info26 rfl Z32_one ?_; change wpList _ _ _ _ _ ((w2.alloc (.cells Z32 26)).setRow w2.heap.size Z32); revert B3; generalize (w2.alloc (.cells Z32 26)).setRow w2.heap.size Z32 = w3; intro B3)
  refine (len_nil _).mono ?_
  rintro _ _ ⟨rfl, rfl⟩
  go_wp2_with fail
  refine (copy_nil _).mono ?_
  rintro _ _ ⟨rfl, rfl⟩
  go_wp2_with fail
  refine (awake_any _ (HG.out.below B3.out.1)).mono ?_
  rintro _ w4 ⟨rfl, hb4⟩
  have B4 : Hid (Below w.heap.size w w4) := B3.out.1.trans (hb4.mono B3.out.1.size)
  have lt : w2.heap.size < _ := World.block_lt_of_cell? _ _ (Z32_at B3.out.2 0 (by decide))
  have h4 : w4.heap[w2.heap.size]? = some (.cells Z32 26 (0, 0)) := (hb4.block _ lt).trans B3.out.2
  have hc : ∀ j, j < Z32.size → w4.cell? ⟨w2.heap.size, j, none⟩ = Z32[j]? := fun j _ => cell_of_row w4 _ j Z32 26 _ h4
  clear h4 lt hb4 B3
  have eqz : (Op.equalIn 10000 26 (.agg Z32) (.agg #[.int .u8 0, .int .u8 0, .int .u8 0, .int .u8 0, .int .u8 0, .int .u8 0, .int .u8 0, .int .u8 0, .int .u8 0, .int .u8 0, .int .u8 0, .int .u8 0, .int .u8 0, .int .u8 0, .int .u8 0, .int .u8 0, .int .u8 0, .int .u8 0, .int .u8 0, .int .u8 0, .int .u8 0, .int .u8 0, .int .u8 0, .int .u8 0, .int .u8 0, .int .u8 0, .int .u8 0, .int .u8 0, .int .u8 0, .int .u8 0, .int .u8 0, .int .u8 0])).run Tryd.prog w4 = .ok true w4 := eq_Z32 w4
  go_wp2_with (refine wpList_load_cells_g (by rfl) 26 (.tmp 2) (by rfl) w2.heap.size (by rfl) Z32 _ hc Tryd.underlying26 rfl info26 ?_)
  go_ret
  exact ⟨rfl, B4.out⟩
end Go.Proofs.YtdhenfepfkmhhaaDoor
