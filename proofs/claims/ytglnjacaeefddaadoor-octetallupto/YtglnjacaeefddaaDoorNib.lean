import Derived.Test.YtglnjacaeefddaaDoorCmp
namespace Go.Proofs.YtglnjacaeefddaaDoor
open Go.RowKit

/-- the nibbles of bytes -/
def nib (Z : Nat → Int) (i : Nat) : Int := if i % 2 = 0 then Z (i / 2) / 16 else Z (i / 2) % 16

/-- A NEW ROW OF n BYTES, the first block behind what was there; all that was there is as it was. -/
structure NewRow (w w' : World) (n : Nat) (Y : Nat → Int) : Prop where
  row : w'.rowIs w.heap.size 5 n (fun i => .int .u8 (Y i))
  below : Below w.heap.size w w'
  size : w'.heap.size = w.heap.size + 1

theorem NewRow.made (w : World) (n : Nat) : NewRow w (w.alloc (.cells (madeCells #[.int .u8 0] n) 5)) n (fun _ => 0) :=
  ⟨World.rowIs_made w _ n 5, (Below.refl _ _).alloc (Nat.le_refl _) _, by simp⟩
theorem NewRow.set {w w' : World} {n : Nat} {Y : Nat → Int} (h : NewRow w w' n Y) (i : Nat) (v : Int) : NewRow w (w'.setCell ⟨w.heap.size, i, none⟩ (.int .u8 v)) n (fun j => if j = i then v else Y j) :=
  ⟨(h.row.set i _).congr (fun j _ => by split <;> rfl), h.below.setCell (Nat.le_refl _) _, by simp [h.size]⟩
theorem NewRow.drewN {w w' : World} {n : Nat} {Y : Nat → Int} (h : NewRow w w' n Y) (q : Nat) : NewRow w (w'.drewN q) n Y :=
  ⟨h.row.of_block rfl, below_drewN h.below q, h.size⟩
theorem NewRow.congr {w w' : World} {n : Nat} {Y X : Nat → Int} (h : NewRow w w' n Y) (e : ∀ i, i < n → Y i = X i) : NewRow w w' n X :=
  ⟨h.row.congr (fun i hi => by rw [e i hi]), h.below, h.size⟩
theorem NewRow.view {w w' : World} {n : Nat} {Y : Nat → Int} (h : NewRow w w' n Y) (hb : ∀ i, i < n → 0 ≤ Y i ∧ Y i ≤ 255) (hn : n ≤ 281474976710656) : View w' (some ⟨w.heap.size, 0, none⟩) w.heap.size 0 n Y :=
  ⟨fun _ => rfl, fun i hi => by rw [Nat.zero_add]; exact h.row.cell hi, hb, hn⟩

theorem nib_step {w wr : World} {N k : Nat} {Z : Nat → Int} (hR : NewRow w wr N (fun i => if i < 2 * k then nib Z i else 0)) (_ : 0 ≤ Z k ∧ Z k ≤ 255) :
    NewRow w ((wr.setCell ⟨w.heap.size, 2 * k, none⟩ (.int .u8 (Z k / 16))).setCell ⟨w.heap.size, 2 * k + 1, none⟩ (.int .u8 (Z k % 16))) N (fun i => if i < 2 * (k + 1) then nib Z i else 0) := by
  refine ((hR.set (2 * k) (Z k / 16)).set (2 * k + 1) (Z k % 16)).congr (fun i _ => ?_)
  by_cases e1 : i = 2 * k + 1
  · subst e1
    rw [if_pos rfl, if_pos (by omega)]
    unfold nib
    rw [if_neg (by omega), show (2 * k + 1) / 2 = k by omega]
  · rw [if_neg e1]
    by_cases e2 : i = 2 * k
    · subst e2
      rw [if_pos rfl, if_pos (by omega)]
      unfold nib
      rw [if_pos (by omega), show (2 * k) / 2 = k by omega]
    · rw [if_neg e2]
      by_cases e3 : i < 2 * k
      · rw [if_pos e3, if_pos (by omega)]
      · rw [if_neg e3, if_neg (by omega)]

set_option maxHeartbeats 400000 in
theorem nibbles_any (w : World) (a : Option Addr) (b off n c : Nat) (Z : Nat → Int) (h : View w a b off n Z) (hn : n ≤ 140737488355328) :
    Calls Tryd.prog 10 #[.slice a n c] w fun e w' => e = .returned (.slice (some ⟨w.heap.size, 0, none⟩) (2 * n) (2 * n)) ∧ NewRow w w' (2 * n) (nib Z) := by
  have hmk := run_make_row' (P := Tryd.prog) 22 5 (.int .u8 0) 1 Tryd.underlying22 Tryd.info5 rfl .i64 .i64 (2 * n) (by omega) (by omega)
  rw [show ((2 * n : Nat) : Int) = 2 * (n : Int) by omega] at hmk
  go_enter Tryd.func10, Tryd.ntmps10
  go_wp2
  clear hmk
  go_loopg [12] n (fun g i wr => ∃ k : Nat, k ≤ n ∧ g = n - k ∧ i = .int .i64 k ∧ NewRow w wr (2 * n) (fun i => if i < 2 * k then nib Z i else 0))
  case atStart => exact ⟨0, Nat.zero_le _, rfl, rfl, (NewRow.made w _).congr (fun i _ => by simp)⟩
  case round =>
    obtain ⟨k, hk, rfl, rfl, hR⟩ := hrel
    by_cases hkn : k < n
    · obtain rfl := h.at_ (by omega)
      have hb := h.lt (by omega)
      have c1 : wr.cell? ⟨b, off + k, none⟩ = some (.int .u8 (Z k)) := (hR.below.cell (p := ⟨b, off + k, none⟩) hb).trans (h.cell k hkn)
      have bd := h.bd k hkn
      have s1 := hR.row.cell (i := 2 * k) (by omega)
      have s2 := hR.row.cell (i := 2 * k + 1) (by omega)
      have f1 := hR.row.frozen (2 * k)
      have f2 := hR.row.frozen (2 * k + 1)
      have R := nib_step hR bd
      go_wp2
      go_roundg (n - (k + 1))
      case measure => omega
      case rel => exact ⟨k + 1, by omega, rfl, by go_num, R⟩
    · have : k = n := by omega
      subst this
      go_wp2
      go_ret
      exact ⟨rfl, hR.congr (fun i hi => by rw [if_pos hi])⟩

end Go.Proofs.YtglnjacaeefddaaDoor
