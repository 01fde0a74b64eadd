/-
  path.Unpack: what stands in the answer.
-/
import Derived.Test.YtmblfmcckejlmaaFm
namespace Go.Proofs.Ytmblfmcckejlmaa
open Go.RowKit

theorem upY_zero {s : List Nat} (h : od s = 1) : upY s 0 = gd s 0 % 16 := by
  unfold upY
  rw [h]
  rfl
theorem upY_hi (s : List Nat) (k : Nat) : upY s (od s + 2 * k) = gd s (1 + k) / 16 := by
  have := od_lt s
  unfold upY nib
  rw [if_pos (by omega), show (od s + 2 * k + (2 - od s)) / 2 = 1 + k by omega]
theorem upY_lo (s : List Nat) (k : Nat) : upY s (od s + 2 * k + 1) = gd s (1 + k) % 16 := by
  have := od_lt s
  unfold upY nib
  rw [if_neg (by omega), show (od s + 2 * k + 1 + (2 - od s)) / 2 = 1 + k by omega]
/-- what stands in the answer ahead of the loop's round k -/
def upZ (s : List Nat) (k i : Nat) : Nat := if i < od s + 2 * k then upY s i else 0
theorem upZ_step {w wr : World} {N k o p q : Nat} {s : List Nat} (h : NewRow w wr N (upZ s k)) (ho : od s = o) (hp : p = o + 2 * k) (hq : q = o + 2 * k + 1) {x y : Int} (hx : x = ((gd s (1 + k) / 16 : Nat) : Int)) (hy : y = ((gd s (1 + k) % 16 : Nat) : Int)) :
    NewRow w ((wr.setCell ⟨w.heap.size, p, none⟩ (.int .u8 x)).setCell ⟨w.heap.size, q, none⟩ (.int .u8 y)) N (upZ s (k + 1)) := by
  subst hp
  subst hq
  subst ho
  rw [hx, hy, ← upY_hi, ← upY_lo]
  refine ((h.set _ _).set _ _).congr (fun i _ => ?_)
  unfold upZ
  by_cases e1 : i = od s + 2 * k + 1
  · subst e1
    rw [if_pos rfl, if_pos (by omega)]
  · rw [if_neg e1]
    by_cases e2 : i = od s + 2 * k
    · subst e2
      rw [if_pos rfl, if_pos (by omega)]
    · rw [if_neg e2]
      by_cases e3 : i < od s + 2 * k
      · rw [if_pos e3, if_pos (by omega)]
      · rw [if_neg e3, if_neg (by omega)]
theorem upZ_even {w : World} {N : Nat} {s : List Nat} (h : od s = 0) : NewRow w (w.alloc (.cells (madeCells #[.int .u8 0] N) 5)) N (upZ s 0) := (NewRow.made w N).congr (fun i _ => by unfold upZ; rw [h, if_neg (by omega)])
theorem upZ_odd {w : World} {N : Nat} {s : List Nat} (h : od s = 1) {y : Int} (hy : y = ((upY s 0 : Nat) : Int)) : NewRow w (w.alloc (.cells ((madeCells #[.int .u8 0] N).setIfInBounds 0 (.int .u8 y)) 5)) N (upZ s 0) := by
  have e : (w.alloc (.cells (madeCells #[.int .u8 0] N) 5)).setCell ⟨w.heap.size, 0, none⟩ (.int .u8 y) = w.alloc (.cells ((madeCells #[.int .u8 0] N).setIfInBounds 0 (.int .u8 y)) 5) := World.setCell_alloc_new _ _ _ _
  rw [← e, hy]
  refine ((NewRow.made w N).set 0 (upY s 0)).congr (fun i _ => ?_)
  unfold upZ
  rw [h]
  by_cases q : i = 0
  · subst q
    rw [if_pos rfl, if_pos (by omega)]
  · rw [if_neg q, if_neg (by omega)]
end Go.Proofs.Ytmblfmcckejlmaa
