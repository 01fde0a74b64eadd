import Derived.Test.YtlhllbggnpcoaaaDoorNo
import Derived.Test.YtlhllbggnpcoaaaDoorSec
/-
  Two books side by side, and what a law keeps beside them.
-/
namespace Go.Proofs.YtlhllbggnpcoaaaDoor
open Go.RowKit Go.Sort Go.Maps

structure TwoX (w0 w : World) (sb1 : Nat) (st1 : Bst) (sb2 : Nat) (st2 : Bst) (R : List (Nat × Array Value)) (F1 F2 : Nat → Prop) : Prop where
  below : Below w0.heap.size w0 w
  ground : Ground w
  b1 : Book w w0.heap.size sb1 st1 F1
  b2 : Book w w0.heap.size sb2 st2 F2
  dis : ∀ i, F1 i → ¬ F2 i
  keep : ∀ p ∈ R, w.heap[p.1]? = some (.cells p.2 31 (0, 0)) ∧ p.1 < w.heap.size ∧ ¬ F1 p.1 ∧ ¬ F2 p.1
  big : 2 < w0.heap.size
def Two4 (w0 w : World) (sb1 : Nat) (st1 : Bst) (sb2 : Nat) (st2 : Bst) (R : List (Nat × Array Value)) : Prop := ∃ F1 F2, TwoX w0 w sb1 st1 sb2 st2 R F1 F2

theorem TwoX.step {w0 w w' : World} {sb1 : Nat} {st1 : Bst} {sb2 : Nat} {st2 : Bst} {R : List (Nat × Array Value)} {F1 F2 : Nat → Prop} (h : TwoX w0 w sb1 st1 sb2 st2 R F1 F2) (hb : Below w.heap.size w w') : TwoX w0 w' sb1 st1 sb2 st2 R F1 F2 :=
  ⟨h.below.trans (hb.mono h.below.size), h.ground.below hb, h.b1.below hb, h.b2.below hb, h.dis, fun p hp => ⟨(hb.block _ (h.keep p hp).2.1).trans (h.keep p hp).1, Nat.lt_of_lt_of_le (h.keep p hp).2.1 hb.size, (h.keep p hp).2.2⟩, h.big⟩
theorem Two4.step {w0 w w' : World} {sb1 : Nat} {st1 : Bst} {sb2 : Nat} {st2 : Bst} {R : List (Nat × Array Value)} (h : Two4 w0 w sb1 st1 sb2 st2 R) (hb : Below w.heap.size w w') : Two4 w0 w' sb1 st1 sb2 st2 R := by
  obtain ⟨F1, F2, h⟩ := h
  exact ⟨F1, F2, h.step hb⟩
theorem Two4.swap {w0 w : World} {sb1 : Nat} {st1 : Bst} {sb2 : Nat} {st2 : Bst} {R : List (Nat × Array Value)} (h : Two4 w0 w sb1 st1 sb2 st2 R) : Two4 w0 w sb2 st2 sb1 st1 R := by
  obtain ⟨F1, F2, h⟩ := h
  exact ⟨F2, F1, h.below, h.ground, h.b2, h.b1, fun i q z => h.dis i z q, fun p hp => ⟨(h.keep p hp).1, (h.keep p hp).2.1, (h.keep p hp).2.2.2, (h.keep p hp).2.2.1⟩, h.big⟩
/-- A CALL OF THE FIRST BOOK, in a world in which something more may lie. -/
theorem Two4.one {w0 w : World} {sb1 : Nat} {st1 : Bst} {sb2 : Nat} {st2 : Bst} {R : List (Nat × Array Value)} (h : Two4 w0 w sb1 st1 sb2 st2 R) (w2 : World) (hb : Below w.heap.size w w2) :
    ∃ F1, Book w2 w0.heap.size sb1 st1 F1 ∧ (∀ i, F1 i → w0.heap.size ≤ i ∧ i < w.heap.size) ∧ Ground w2 ∧ ∀ w' st1', Turned w2 w' w0.heap.size sb1 st1' F1 → Two4 w0 w' sb1 st1' sb2 st2 R := by
  obtain ⟨F1, F2, h⟩ := h
  have h2 := h.step hb
  refine ⟨F1, h2.b1, h.b1.lim, h2.ground, fun w' st1' tn => ?_⟩
  obtain ⟨F', f1, f2, hbk⟩ := tn.book
  have lo : ∀ i, F1 i → w0.heap.size ≤ i := fun i q => (h.b1.lim i q).1
  have bt : Below w0.heap.size w2 w' := tn.turn.below lo h2.below.size
  refine ⟨F', F2, h2.below.trans bt, h2.ground.turn tn.turn (fun i q => by have := lo i q; have := h.big; omega), hbk, h2.b2.turn tn.turn (fun i q z => h.dis i z q), fun i q z => ?_, fun p hp => ?_, h.big⟩
  · rcases f2 i q with q | q
    · exact h.dis i q z
    · have := (h2.b2.lim i z).2; omega
  · have k := h2.keep p hp
    refine ⟨(tn.turn.block _ k.2.1 k.2.2.1).trans k.1, Nat.lt_of_lt_of_le k.2.1 tn.turn.size, fun q => ?_, k.2.2.2⟩
    rcases f2 _ q with q | q
    · exact k.2.2.1 q
    · omega
theorem Two4.two {w0 w : World} {sb1 : Nat} {st1 : Bst} {sb2 : Nat} {st2 : Bst} {R : List (Nat × Array Value)} (h : Two4 w0 w sb1 st1 sb2 st2 R) (w2 : World) (hb : Below w.heap.size w w2) :
    ∃ F2, Book w2 w0.heap.size sb2 st2 F2 ∧ (∀ i, F2 i → w0.heap.size ≤ i ∧ i < w.heap.size) ∧ Ground w2 ∧ ∀ w' st2', Turned w2 w' w0.heap.size sb2 st2' F2 → Two4 w0 w' sb1 st1 sb2 st2' R := by
  obtain ⟨F, h1, h2, h3, h4⟩ := h.swap.one w2 hb
  exact ⟨F, h1, h2, h3, fun w' st' t => (h4 w' st' t).swap⟩
/-- a hash laid into a box of the law's own -/
theorem Two4.box {w0 w : World} {sb1 : Nat} {st1 : Bst} {sb2 : Nat} {st2 : Bst} {R : List (Nat × Array Value)} (h : Two4 w0 w sb1 st1 sb2 st2 R) (cs : Array Value) : Two4 w0 ((w.alloc (.cells Z32 31)).setRow w.heap.size cs) sb1 st1 sb2 st2 ((w.heap.size, cs) :: R) := by
  obtain ⟨F1, F2, h⟩ := h
  have hb : Below w.heap.size w ((w.alloc (.cells Z32 31)).setRow w.heap.size cs) := below_setRow ((Below.refl _ _).alloc (Nat.le_refl _) _) (Nat.le_refl _) _
  have h2 := h.step hb
  refine ⟨F1, F2, { h2 with keep := fun p hp => ?_ }⟩
  rcases List.mem_cons.1 hp with rfl | hp
  · refine ⟨setRow_heap _ _ _ _ _ _ (heap_alloc_new _ _), by simp, fun q => ?_, fun q => ?_⟩
    · have := (h.b1.lim _ q).2; exact absurd this (Nat.lt_irrefl _)
    · have := (h.b2.lim _ q).2; exact absurd this (Nat.lt_irrefl _)
  · exact h2.keep p hp
theorem Two4.cells {w0 w : World} {sb1 : Nat} {st1 : Bst} {sb2 : Nat} {st2 : Bst} {R : List (Nat × Array Value)} (h : Two4 w0 w sb1 st1 sb2 st2 R) {g : Nat} {cs : Array Value} (hm : (g, cs) ∈ R) : w.heap[g]? = some (.cells cs 31 (0, 0)) := by
  obtain ⟨F1, F2, h⟩ := h
  exact (h.keep _ hm).1
theorem Two4.belowW {w0 w : World} {sb1 : Nat} {st1 : Bst} {sb2 : Nat} {st2 : Bst} {R : List (Nat × Array Value)} (h : Two4 w0 w sb1 st1 sb2 st2 R) : Below w0.heap.size w0 w ∧ Ground w ∧ 2 < w0.heap.size := by
  obtain ⟨F1, F2, h⟩ := h
  exact ⟨h.below, h.ground, h.big⟩
/-- two new books -/
theorem two_new {w0 w1 w2 w3 : World} {sb1 sb2 : Nat} {st1 st2 : Bst} {F1 F2 : Nat → Prop} (hG : Ground w0) (hb : Below w0.heap.size w0 w1) (hb1 : Below w1.heap.size w1 w2) (h1 : Book w2 w0.heap.size sb1 st1 F1) (hb2 : Below w2.heap.size w2 w3) (h2 : Book w3 w0.heap.size sb2 st2 F2) (hf : ∀ i, F2 i → w2.heap.size ≤ i) : Two4 w0 w3 sb1 st1 sb2 st2 [] :=
  ⟨F1, F2, (hb.trans (hb1.mono hb.size)).trans (hb2.mono (Nat.le_trans hb.size hb1.size)), ((hG.below hb).below hb1).below hb2, h1.below hb2, h2, fun i q z => by have := (h1.lim i q).2; have := hf i z; omega, fun p hp => by simp at hp, hG.big⟩
end Go.Proofs.YtlhllbggnpcoaaaDoor
