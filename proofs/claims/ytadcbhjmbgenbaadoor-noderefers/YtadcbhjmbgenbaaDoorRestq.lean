import Derived.Test.YtadcbhjmbgenbaaDoorGenq
import Derived.Test.YtadcbhjmbgenbaaDoorEqHq
import Derived.Deep.RegionHeld3
import Derived.Deep.MidRow
/-
  mac: the block of a secret, and a block with a mask.
-/
namespace Go.Proofs.YtadcbhjmbgenbaaDoor
open Go.RowKit

def Y64 : Array Value := #[.int .u8 0, .int .u8 0, .int .u8 0, .int .u8 0, .int .u8 0, .int .u8 0, .int .u8 0, .int .u8 0, .int .u8 0, .int .u8 0, .int .u8 0, .int .u8 0, .int .u8 0, .int .u8 0, .int .u8 0, .int .u8 0, .int .u8 0, .int .u8 0, .int .u8 0, .int .u8 0, .int .u8 0, .int .u8 0, .int .u8 0, .int .u8 0, .int .u8 0, .int .u8 0, .int .u8 0, .int .u8 0, .int .u8 0, .int .u8 0, .int .u8 0, .int .u8 0, .int .u8 0, .int .u8 0, .int .u8 0, .int .u8 0, .int .u8 0, .int .u8 0, .int .u8 0, .int .u8 0, .int .u8 0, .int .u8 0, .int .u8 0, .int .u8 0, .int .u8 0, .int .u8 0, .int .u8 0, .int .u8 0, .int .u8 0, .int .u8 0, .int .u8 0, .int .u8 0, .int .u8 0, .int .u8 0, .int .u8 0, .int .u8 0, .int .u8 0, .int .u8 0, .int .u8 0, .int .u8 0, .int .u8 0, .int .u8 0, .int .u8 0, .int .u8 0]
theorem Y64_rep : Y64 = Array.replicate 64 (.int .u8 0) := by rfl
theorem info64 : (Tryd.prog.info? 84).map (fun i => (i.zero, i.size)) = some (some (.agg Y64), 64) := by kernel_rfl
theorem info64s : (Tryd.prog.info? 84).map (·.size) = some 64 := by kernel_rfl

/-- sixty-four bytes as a value -/
def blkA (B : Nat → Nat) : Array Value := ((List.range 64).map (fun i => Value.int .u8 (B i))).toArray
theorem blkA_size (B : Nat → Nat) : (blkA B).size = 64 := by simp [blkA]
theorem blkA_cell (B : Nat → Nat) : ∀ i, i < 64 → (blkA B)[i]? = some (.int .u8 (B i)) := by
  intro i hi
  unfold blkA
  rw [List.getElem?_toArray, List.getElem?_map, List.getElem?_range hi]
  rfl
theorem blkA_of {cs : Array Value} {B : Nat → Nat} (h : cs.size = 64) (hc : ∀ i, i < 64 → cs[i]? = some (.int .u8 (B i))) : cs = blkA B := by
  apply Array.ext_getElem?
  intro i
  by_cases hi : i < 64
  · rw [hc i hi, blkA_cell B i hi]
  · rw [Array.getElem?_eq_none (by omega), Array.getElem?_eq_none (by rw [blkA_size]; omega)]
theorem blkA_congr {B C : Nat → Nat} (h : ∀ i, i < 64 → B i = C i) : blkA B = blkA C := blkA_of (blkA_size B) (fun i hi => by rw [blkA_cell B i hi, h i hi])
theorem blkA_info (B : Nat → Nat) : (Tryd.prog.info? 84).map (·.size) = some (blkA B).size := by rw [blkA_size]; exact info64s
theorem blkA_one (B : Nat → Nat) : (blkA B).all (·.oneCell') = true := all_one (fun i hi => ⟨_, _, blkA_cell _ i (by rw [blkA_size] at hi; exact hi)⟩)
theorem Y64_blk (B : Nat → Nat) : Y64.size = (blkA B).size := by rw [blkA_size]; rfl

/-- each byte with x -/
def msk (x : Nat) (B : Nat → Nat) (i : Nat) : Nat := B i ^^^ x
theorem msk_lt {x : Nat} {B : Nat → Nat} (hx : x < 256) (hB : ∀ i, B i < 256) (i : Nat) : msk x B i < 256 := Nat.xor_lt_two_pow (n := 8) (hB i) hx
structure MF (w wr : World) (F : Nat → Nat) : Prop where
  below : Below w.heap.size w wr
  row : wr.rowIs w.heap.size 84 64 (fun i => .int .u8 (F i))
  out : wr.rowIs (w.heap.size + 1) 84 64 (fun _ => .int .u8 0)
theorem MF.set {w wr : World} {F : Nat → Nat} (h : MF w wr F) (i v : Nat) : MF w (wr.setCell ⟨w.heap.size, i, none⟩ (.int .u8 v)) (fun j => if j = i then v else F j) :=
  ⟨h.below.setCell (Nat.le_refl _) _, (h.row.set i _).congr (fun j _ => by split <;> rfl), h.out.setOther (by show w.heap.size + 1 ≠ w.heap.size; omega) _⟩
theorem MF.congr {w wr : World} {F G : Nat → Nat} (h : MF w wr F) (e : ∀ i, i < 64 → F i = G i) : MF w wr G := ⟨h.below, h.row.congr (fun i hi => by rw [e i hi]), h.out⟩
theorem mf_start (w : World) (B : Nat → Nat) : MF w ((w.alloc (.cells (blkA B) 84)).alloc (.cells Y64 84)) B := by
  have r := World.rowIs_alloc w (blkA B) 84 (fun i => .int .u8 (B i)) (fun i hi => blkA_cell B i (by rw [blkA_size] at hi; exact hi))
  rw [blkA_size] at r
  have o : ((w.alloc (.cells (blkA B) 84)).alloc (.cells Y64 84)).rowIs (w.heap.size + 1) 84 64 (fun _ => .int .u8 0) := by
    rw [Y64_rep]
    have := zeros_row (w.alloc (.cells (blkA B) 84)) (.int .u8 0) 64 84
    rwa [World.size_alloc] at this
  exact ⟨((Below.refl _ _).alloc (Nat.le_refl _) _).alloc (by simp) _, r.alloc _, o⟩

end Go.Proofs.YtadcbhjmbgenbaaDoor

/-
  The law's rest, and rows that are made.
-/
namespace Go.Proofs.YtadcbhjmbgenbaaDoor
open Go.RowKit

theorem rest_eq (n m : Int) (hm : 0 < m) : (n.tmod m + m).tmod m = n % m := by
  have h1 := Int.tmod_add_mul_tdiv n m
  have h2 : -m < n.tmod m := by
    have := Int.lt_tmod_of_pos n hm
    exact this
  have h3 : n.tmod m < m := Int.tmod_lt_of_pos n hm
  rw [Int.tmod_eq_emod_of_nonneg (by omega), Int.add_emod_right]
  have e : n = n.tmod m + m * n.tdiv m := by omega
  conv => rhs; rw [e]
  rw [Int.add_mul_emod_self_left]

/-- a row of bytes that the law has made -/
structure Mk (w wr : World) (g n : Nat) (f : Nat → Nat) : Prop where
  below : Below w.heap.size w wr
  lo : w.heap.size ≤ g
  row : wr.rowIs g 5 n (fun i => .int .u8 (f i))
theorem Mk.set {w wr : World} {g n : Nat} {f : Nat → Nat} (h : Mk w wr g n f) (i v : Nat) : Mk w (wr.setCell ⟨g, i, none⟩ (.int .u8 v)) g n (fun j => if j = i then v else f j) :=
  ⟨h.below.setCell h.lo _, h.lo, (h.row.set i _).congr (fun j _ => by split <;> rfl)⟩
theorem Mk.congr {w wr : World} {g n : Nat} {f f' : Nat → Nat} (h : Mk w wr g n f) (e : ∀ i, i < n → f i = f' i) : Mk w wr g n f' :=
  ⟨h.below, h.lo, h.row.congr (fun i hi => by rw [e i hi])⟩
theorem Mk.step {w wr w' : World} {g n : Nat} {f : Nat → Nat} (h : Mk w wr g n f) (hb : Below wr.heap.size wr w') : Mk w w' g n f :=
  ⟨h.below.trans (hb.mono h.below.size), h.lo, h.row.of_block (hb.block _ h.row.lt)⟩
theorem Mk.save {w wr w' : World} {g n p : Nat} {f : Nat → Nat} (h : Mk w wr g n f) (hs : Save p wr w') (hp : w.heap.size ≤ p) (hgp : g ≠ p) : Mk w w' g n f :=
  ⟨h.below.trans (hs.below hp h.below.size), h.lo, hs.row h.row hgp⟩
theorem mk_made {w w1 : World} (hb : Below w.heap.size w w1) (n : Nat) : Mk w (w1.alloc (.cells (madeCells #[.int .u8 0] n) 5)) w1.heap.size n (fun _ => 0) :=
  ⟨hb.alloc hb.size _, hb.size, World.rowIs_made w1 _ n 5⟩
theorem Mk.view {w wr : World} {g n : Nat} {f : Nat → Nat} (h : Mk w wr g n f) (hf : ∀ i, f i < 256) (i k : Nat) (hik : i + k ≤ n) (hn : n ≤ 281474976710656) : View wr (some ⟨g, i, none⟩) g i k (fun j => (f (i + j) : Int)) :=
  ⟨fun _ => rfl, fun j hj => h.row.cell (by omega), fun j hj => by have := hf (i + j); omega, by omega⟩
def hashL (s : W8) : List Value := (List.range 32).map (fun i => Value.int .u8 (hb s i))
theorem hashL_len (s : W8) : (Tryd.prog.info? 31).map (·.size) = some (hashL s).length := by
  unfold hashL
  simp only [List.length_map, List.length_range]
  exact info26
theorem HashAt.range {w : World} {g : Nat} {s : W8} (h : HashAt w g s) : w.rangeAt g 0 (hashL s) := by
  intro j v hj
  have hl : j < 32 := by
    have := (List.getElem?_eq_some_iff.1 hj).1
    simpa [hashL] using this
  rw [Nat.zero_add, h.cells j (by rw [hashA_size]; exact hl), hashA_cell s j hl]
  unfold hashL at hj
  rw [List.getElem?_map, List.getElem?_range hl] at hj
  exact hj
theorem eq_hashL (w : World) (s : W8) : (Op.equalIn 10000 31 (.agg (hashL s).toArray) (.agg (hashA s))).run Tryd.prog w = .ok true w := eq_hashA w s
end Go.Proofs.YtadcbhjmbgenbaaDoor
