import Derived.Test.YtledfigfokoiiaaOwnq
/-
  Results that lie in variables.
-/
namespace Go.Proofs.Ytledfigfokoiiaa
open Go.RowKit
theorem info25s : (Try.prog.info? 46).map (·.size) = some 3 := by kernel_rfl
theorem range3 {w : World} {g o : Nat} {x y z : Value} (h0 : w.cell? ⟨g, o, none⟩ = some x) (h1 : w.cell? ⟨g, o + 1, none⟩ = some y) (h2 : w.cell? ⟨g, o + 2, none⟩ = some z) : w.rangeAt g o [x, y, z] := by
  intro j v hj
  match j, hj with
  | 0, hj => simp at hj; subst hj; exact h0
  | 1, hj => simp at hj; subst hj; exact h1
  | 2, hj => simp at hj; subst hj; exact h2
theorem loadVar25 {w : World} {g : Nat} {x y z : Value} (h0 : w.cell? ⟨g, 0, none⟩ = some x) (h1 : w.cell? ⟨g, 1, none⟩ = some y) (h2 : w.cell? ⟨g, 2, none⟩ = some z) : (loadVar 46 ⟨g, 0, none⟩).run Try.prog w = .ok (.agg #[x, y, z]) w :=
  run_loadVar_mid w g 0 46 [x, y, z] _ (range3 h0 h1 h2) Try.underlying46 rfl info25s
theorem res1 {fn : Func} {p : Tmp} {ty : TypeId} (h : fn.results = #[.cell p ty]) (tmps : Array Value) (w : World) (g : Nat) (v : Value)
    (hp : tmps.getD p undef = .pointer (some ⟨g, 0, none⟩)) (hl : (loadVar ty ⟨g, 0, none⟩).run Try.prog w = .ok v w) :
    (results fn tmps).run Try.prog w = .ok v w := by
  have hp' : tmps[p]?.getD undef = .pointer (some ⟨g, 0, none⟩) := by simpa using hp
  simp [results, h, hp', asAddr, hl]
theorem res2 {fn : Func} {p t : Tmp} {ty : TypeId} (h : fn.results = #[.cell p ty, .tmp t]) (tmps : Array Value) (w : World) (g : Nat) (v u : Value)
    (hp : tmps.getD p undef = .pointer (some ⟨g, 0, none⟩)) (ht : tmps.getD t undef = u) (hl : (loadVar ty ⟨g, 0, none⟩).run Try.prog w = .ok v w) :
    (results fn tmps).run Try.prog w = .ok (.tuple #[v, u]) w := by
  have hp' : tmps[p]?.getD undef = .pointer (some ⟨g, 0, none⟩) := by simpa using hp
  have ht' : tmps[t]?.getD undef = u := by simpa using ht
  simp [results, h, hp', ht', asAddr, hl]
theorem res3 {fn : Func} {p t q : Tmp} {ty : TypeId} (h : fn.results = #[.cell p ty, .tmp t, .tmp q]) (tmps : Array Value) (w : World) (g : Nat) (v u x : Value)
    (hp : tmps.getD p undef = .pointer (some ⟨g, 0, none⟩)) (ht : tmps.getD t undef = u) (hq : tmps.getD q undef = x) (hl : (loadVar ty ⟨g, 0, none⟩).run Try.prog w = .ok v w) :
    (results fn tmps).run Try.prog w = .ok (.tuple #[v, u, x]) w := by
  have hp' : tmps[p]?.getD undef = .pointer (some ⟨g, 0, none⟩) := by simpa using hp
  have ht' : tmps[t]?.getD undef = u := by simpa using ht
  have hq' : tmps[q]?.getD undef = x := by simpa using hq
  simp [results, h, hp', ht', hq', asAddr, hl]
/-- a struct of three stored -/
abbrev set3 (w : World) (g : Nat) (x y z : Value) : World := ((w.setCell ⟨g, 0, none⟩ x).setCell ⟨g, 1, none⟩ y).setCell ⟨g, 2, none⟩ z
theorem set3_cells {w : World} {g : Nat} {x y z x' y' z' : Value} (h0 : w.cell? ⟨g, 0, none⟩ = some x') (h1 : w.cell? ⟨g, 1, none⟩ = some y') (h2 : w.cell? ⟨g, 2, none⟩ = some z') :
    (set3 w g x y z).cell? ⟨g, 0, none⟩ = some x ∧ (set3 w g x y z).cell? ⟨g, 1, none⟩ = some y ∧ (set3 w g x y z).cell? ⟨g, 2, none⟩ = some z := by
  unfold set3
  refine ⟨?_, ?_, ?_⟩
  · rw [World.cell?_setCell_other _ _ _ _ (by simp), World.cell?_setCell_other _ _ _ _ (by simp), World.cell?_setCell_same _ _ _ h0]
  · rw [World.cell?_setCell_other _ _ _ _ (by simp), World.cell?_setCell_same _ _ _ ((World.cell?_setCell_other _ _ _ _ (by simp)).trans h1)]
  · rw [World.cell?_setCell_same _ _ _ ((World.cell?_setCell_other _ _ _ _ (by simp)).trans ((World.cell?_setCell_other _ _ _ _ (by simp)).trans h2))]
theorem set3_turn (w : World) (g : Nat) (x y z : Value) : Turn (fun i => i = g) w (set3 w g x y z) :=
  ((Turn.setCell (F := fun i => i = g) w ⟨g, 0, none⟩ x rfl).trans (Turn.setCell (F := fun i => i = g) _ ⟨g, 1, none⟩ y rfl) (fun _ q => Or.inl q)).trans (Turn.setCell (F := fun i => i = g) _ ⟨g, 2, none⟩ z rfl) (fun _ q => Or.inl q)
theorem set3_size (w : World) (g : Nat) (x y z : Value) : (set3 w g x y z).heap.size = w.heap.size := by simp
theorem Own.turn {F : Nat → Prop} {w w' : World} {lo hi : Nat} {x : It} {vb vi : Value} (h : Own w lo hi x vb vi) (k : Turn F w w') (hF : ∀ i, lo ≤ i → i < hi → ¬ F i) (hh : hi ≤ w.heap.size) : Own w' lo hi x vb vi := h.same (fun q q1 q2 => k.block q (by omega) (hF q q1 q2))
end Go.Proofs.Ytledfigfokoiiaa
