import Derived.Test.YtadcbhjmbgenbaaDoorMacBq
import Derived.Test.YtadcbhjmbgenbaaDoorRestq
import Derived.Test.YtadcbhjmbgenbaaDoorNtsq
import Derived.Test.YtadcbhjmbgenbaaDoorEqAq
/-
  mac: a code on its way, in memory.
-/
namespace Go.Proofs.YtadcbhjmbgenbaaDoor
open Go.RowKit

def stL (s : W8) (R : Nat → Nat) (n : Nat) : List Value := (List.range 73).map (stc E0.tl s R n)
def blkL (B : Nat → Nat) : List Value := (List.range 64).map (fun i => Value.int .u8 (B i))
theorem stL_len (s : W8) (R : Nat → Nat) (n : Nat) : (Tryd.prog.info? 86).map (·.size) = some (stL s R n).length := by
  unfold stL
  simp only [List.length_map, List.length_range]
  exact (zero_of_info info54).2
theorem blkL_len (B : Nat → Nat) : (Tryd.prog.info? 84).map (·.size) = some (blkL B).length := by
  unfold blkL
  simp only [List.length_map, List.length_range]
  exact info64s
theorem StRow.range {E : Env} {w : World} {p : Nat} {s : W8} {R : Nat → Nat} {n : Nat} (h : StRow E w p s R n) : w.rangeAt p 0 (stL s R n) := by
  intro j v hj
  have hl : j < 73 := by
    have := (List.getElem?_eq_some_iff.1 hj).1
    simpa [stL] using this
  rw [Nat.zero_add, StRow.part h j (by rw [stA_size]; exact hl)]
  unfold stA
  rw [List.getElem?_toArray]
  exact hj
/-- sixty-four bytes from a place on -/
theorem blk_range {w : World} {g o : Nat} {B : Nat → Nat} (h : ∀ i, i < 64 → w.cell? ⟨g, o + i, none⟩ = some (.int .u8 (B i))) : w.rangeAt g o (blkL B) := by
  intro j v hj
  have hl : j < 64 := by
    have := (List.getElem?_eq_some_iff.1 hj).1
    simpa [blkL] using this
  rw [h j hl]
  unfold blkL at hj
  rw [List.getElem?_map, List.getElem?_range hl] at hj
  exact hj

theorem cat_assoc (a m : Nat) (I X Y : Nat → Nat) : cat (a + m) (cat a I X) Y = cat a I (cat m X Y) := by
  funext i
  unfold cat
  by_cases h1 : i < a
  · rw [if_pos (by omega), if_pos h1, if_pos h1]
  · rw [if_neg h1]
    by_cases h2 : i - a < m
    · rw [if_pos (by omega), if_neg h1, if_pos h2]
    · rw [if_neg (by omega), if_neg h1, if_neg h2, show i - (a + m) = i - a - m by omega]

/-- the code of m bytes X under the block B -/
def hmac (B : Nat → Nat) (m : Nat) (X : Nat → Nat) : W8 := digest 96 (cat 64 (msk 92 B) (hb (digest (64 + m) (cat 64 (msk 54 B) X))))

end Go.Proofs.YtadcbhjmbgenbaaDoor

/-
  mac: Copy.
-/
namespace Go.Proofs.YtadcbhjmbgenbaaDoor
open Go.RowKit

theorem load64 {w : World} {g o : Nat} {B : Nat → Nat} (h : ∀ i, i < 64 → w.cell? ⟨g, o + i, none⟩ = some (.int .u8 (B i))) : (Instr.loadAt 84 (.pointer (some ⟨g, o, none⟩))).run Tryd.prog w = .ok (.agg (blkA B)) w :=
  run_loadAt_mid w g o 84 (blkL B) _ (blk_range h) Tryd.underlying84 rfl (blkL_len B)
theorem load73 {E : Env} {w : World} {p : Nat} {s : W8} {R : Nat → Nat} {n : Nat} (h : StRow E w p s R n) : (Instr.loadAt 86 (.pointer (some ⟨p, 0, none⟩))).run Tryd.prog w = .ok (.agg (stL s R n).toArray) w :=
  run_loadAt_mid w p 0 86 (stL s R n) _ (StRow.range h) Tryd.underlying86 rfl (stL_len s R n)

theorem yieldsIf_build {P : Program} {ops : Array Oper} {S : World → Prop} {op : Oper} {a : Act} (hw : Region.wanted op (yielded ops a.tmps) = true) (t : TypeId) (parts : Array (Nat × Operand)) (ho : op.op = .build t parts) (cells : Array Value)
    (hb : P.built t (parts.map fun (i, x) => (i, a.eval x)).toList = some cells) : YieldsIf P ops S op (.agg cells) a :=
  .inl ⟨hw, fun w _ => by
    unfold execOp
    simp only [ho, Sem.run_bind, run_build w t _ cells hb, Result.andThen_ok]
    rfl⟩
theorem wpAnyH_weaken {P : Program} {ops : Array Oper} {Q : Exit → Act → World → Prop} {md : Region.Mode} {S S' : World → Prop} (h : ∀ w, S' w → S w) : ∀ (fuel : Nat) (listed : Array Bool) (a : Act) (w : World), wpAnyH P md ops Q S' fuel listed a w → wpAnyH P md ops Q S fuel listed a w
  | 0, _, _, _, k => k
  | fuel + 1, _, _, _, k => ⟨k.1, fun i hi => wpOp_mono (fun a' w' h' => ⟨h w' h'.1, wpAnyH_weaken h fuel _ a' w' h'.2⟩) (k.2 i hi)⟩
end Go.Proofs.YtadcbhjmbgenbaaDoor

/-
  Two hashes compared: mac.Equal and ==.
-/
namespace Go.Proofs.YtadcbhjmbgenbaaDoor
open Go.RowKit

theorem arrA_hA {k : List Nat} (h : IsH k) : arrA (gd k) = hA k := by
  have e := hA_of (arrA_size (gd k)) (arrA_cell (gd k))
  rw [e]
  have := lst_of k
  rw [h.1] at this
  rw [this]
set_option maxRecDepth 100000 in
theorem eqH_any (w : World) (k k' : List Nat) (h : IsH k) (h' : IsH k') : (Op.equalIn 10000 31 (.agg (hA k)) (.agg (hA k'))).run Tryd.prog w = .ok (decide (k = k')) w := by
  have K : Tryd.prog.keyTypeAt 2 31 = true := by kernel_rfl
  have c1 : (Value.agg (hA k)).cells.toList = bv k := by simp [Value.cells, hA]
  have c2 : (Value.agg (hA k')).cells.toList = bv k' := by simp [Value.cells, hA]
  obtain ⟨r, hr, hiff⟩ := run_equalIn_deep 9998 2 31 K w 2 2 (.agg (hA k)) (.agg (hA k')) _ _ (formed_hash h) (formed_hash h') (by rw [c1]; exact lits_hash 0 h) (by rw [c2]; exact lits_hash 0 h')
  rw [hr]
  have e : k = k' ↔ r = true := by
    rw [hiff]
    constructor
    · intro e; rw [e]
    · intro e
      exact (List.map_inj_right (fun x y q => by injection q with _ q; omega)).1 e
  cases r with
  | true => rw [decide_eq_true (e.2 rfl)]
  | false => rw [decide_eq_false (fun q => by cases e.1 q)]
end Go.Proofs.YtadcbhjmbgenbaaDoor

/-
  mac: New.
-/
namespace Go.Proofs.YtadcbhjmbgenbaaDoor
open Go.RowKit

/-- sixty-four bytes in a block of their own -/
def BlkAt (w : World) (g : Nat) (B : Nat → Nat) : Prop := w.heap[g]? = some (.cells (blkA B) 84 (0, 0))
theorem BlkAt.lt {w : World} {g : Nat} {B : Nat → Nat} (h : BlkAt w g B) : g < w.heap.size := by
  by_cases e : g < w.heap.size
  · exact e
  · have hn : w.heap[g]? = none := by simp; omega
    unfold BlkAt at h
    rw [hn] at h
    cases h
theorem BlkAt.below {w w' : World} {g : Nat} {B : Nat → Nat} (h : BlkAt w g B) (hb : Below w.heap.size w w') : BlkAt w' g B := (hb.block g h.lt).trans h
theorem BlkAt.cells {w : World} {g : Nat} {B : Nat → Nat} (h : BlkAt w g B) : ∀ i, i < 64 → w.cell? ⟨g, 0 + i, none⟩ = some (.int .u8 (B i)) := fun i hi => by
  rw [Nat.zero_add, cell_of_row w g i _ 84 _ h, blkA_cell B i hi]
theorem BlkAt.range {w : World} {g : Nat} {B : Nat → Nat} (h : BlkAt w g B) : w.rangeAt g 0 (blkL B) := blk_range h.cells
theorem BlkAt.view {w : World} {g : Nat} {B : Nat → Nat} (h : BlkAt w g B) (hB : ∀ i, B i < 256) : View w (some ⟨g, 0, none⟩) g 0 64 (fun i => (B i : Int)) :=
  ⟨fun _ => rfl, h.cells, fun i _ => by have := hB i; omega, by omega⟩
theorem blk_laid (w : World) (B : Nat → Nat) : BlkAt ((w.alloc (.cells Y64 84)).setRow w.heap.size (blkA B)) w.heap.size B ∧ Below w.heap.size w ((w.alloc (.cells Y64 84)).setRow w.heap.size (blkA B)) :=
  ⟨setRow_heap _ _ _ _ _ _ (heap_alloc_new _ _), below_setRow ((Below.refl _ _).alloc (Nat.le_refl _) _) (Nat.le_refl _) _⟩

end Go.Proofs.YtadcbhjmbgenbaaDoor
