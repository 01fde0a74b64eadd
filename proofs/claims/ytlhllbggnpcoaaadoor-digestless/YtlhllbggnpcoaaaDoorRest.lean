import Derived.Test.YtlhllbggnpcoaaaDoorGen
import Derived.Test.YtlhllbggnpcoaaaDoorEqH
import Derived.Deep.RegionHeld3
import Derived.Deep.MidRow
/-
  The law's rest, and rows that are made.
-/
namespace Go.Proofs.YtlhllbggnpcoaaaDoor
open Go.RowKit

theorem rest_eq (n m : Int) (hm : 0 < m) : (n.tmod m + m).tmod m = n % m := by
  have h1 := Int.tmod_add_mul_tdiv n m
  have h2 : -m < n.tmod m := by
    have := Int.lt_tmod_of_pos n hm
    exact this
  have h3 : n.tmod m < m := Int.tmod_lt_of_pos n hm
  rw [Int.tmod_eq_emod_of_nonneg (by omega), Int.add_emod_right]
  have e : n = n.tmod m + m * n.tdiv m := by omega
  conv => rhs; rw [e]
  rw [Int.add_mul_emod_self_left]

/-- a row of bytes that the law has made -/
structure Mk (w wr : World) (g n : Nat) (f : Nat → Nat) : Prop where
  below : Below w.heap.size w wr
  lo : w.heap.size ≤ g
  row : wr.rowIs g 5 n (fun i => .int .u8 (f i))
theorem Mk.set {w wr : World} {g n : Nat} {f : Nat → Nat} (h : Mk w wr g n f) (i v : Nat) : Mk w (wr.setCell ⟨g, i, none⟩ (.int .u8 v)) g n (fun j => if j = i then v else f j) :=
  ⟨h.below.setCell h.lo _, h.lo, (h.row.set i _).congr (fun j _ => by split <;> rfl)⟩
theorem Mk.congr {w wr : World} {g n : Nat} {f f' : Nat → Nat} (h : Mk w wr g n f) (e : ∀ i, i < n → f i = f' i) : Mk w wr g n f' :=
  ⟨h.below, h.lo, h.row.congr (fun i hi => by rw [e i hi])⟩
theorem Mk.step {w wr w' : World} {g n : Nat} {f : Nat → Nat} (h : Mk w wr g n f) (hb : Below wr.heap.size wr w') : Mk w w' g n f :=
  ⟨h.below.trans (hb.mono h.below.size), h.lo, h.row.of_block (hb.block _ h.row.lt)⟩
theorem Mk.save {w wr w' : World} {g n p : Nat} {f : Nat → Nat} (h : Mk w wr g n f) (hs : Save p wr w') (hp : w.heap.size ≤ p) (hgp : g ≠ p) : Mk w w' g n f :=
  ⟨h.below.trans (hs.below hp h.below.size), h.lo, hs.row h.row hgp⟩
theorem mk_made {w w1 : World} (hb : Below w.heap.size w w1) (n : Nat) : Mk w (w1.alloc (.cells (madeCells #[.int .u8 0] n) 5)) w1.heap.size n (fun _ => 0) :=
  ⟨hb.alloc hb.size _, hb.size, World.rowIs_made w1 _ n 5⟩
theorem Mk.view {w wr : World} {g n : Nat} {f : Nat → Nat} (h : Mk w wr g n f) (hf : ∀ i, f i < 256) (i k : Nat) (hik : i + k ≤ n) (hn : n ≤ 281474976710656) : View wr (some ⟨g, i, none⟩) g i k (fun j => (f (i + j) : Int)) :=
  ⟨fun _ => rfl, fun j hj => h.row.cell (by omega), fun j hj => by have := hf (i + j); omega, by omega⟩
def hashL (s : W8) : List Value := (List.range 32).map (fun i => Value.int .u8 (hb s i))
theorem hashL_len (s : W8) : (Tryd.prog.info? 31).map (·.size) = some (hashL s).length := by
  unfold hashL
  simp only [List.length_map, List.length_range]
  exact info26
theorem HashAt.range {w : World} {g : Nat} {s : W8} (h : HashAt w g s) : w.rangeAt g 0 (hashL s) := by
  intro j v hj
  have hl : j < 32 := by
    have := (List.getElem?_eq_some_iff.1 hj).1
    simpa [hashL] using this
  rw [Nat.zero_add, h.cells j (by rw [hashA_size]; exact hl), hashA_cell s j hl]
  unfold hashL at hj
  rw [List.getElem?_map, List.getElem?_range hl] at hj
  exact hj
theorem eq_hashL (w : World) (s : W8) : (Op.equalIn 10000 31 (.agg (hashL s).toArray) (.agg (hashA s))).run Tryd.prog w = .ok true w := eq_hashA w s
end Go.Proofs.YtlhllbggnpcoaaaDoor
