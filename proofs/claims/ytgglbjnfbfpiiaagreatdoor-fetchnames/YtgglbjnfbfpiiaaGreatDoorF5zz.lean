import Derived.Test.YtgglbjnfbfpiiaaGreatDoorF4zz
/-
  The evaluator: append.
-/
namespace Go.Ev
open Go
theorem growBy_le (n : Nat) : ∀ (r c : Nat), c < n ∨ 4 * c ≤ 5 * n + 3072 → 4 * Builtin.growBy n r c ≤ 5 * n + 3072
  | 0, c, h => by unfold Builtin.growBy; omega
  | r + 1, c, h => by
    unfold Builtin.growBy
    split
    · omega
    · exact growBy_le n r _ (.inr (by omega))
theorem nextcap_le {need old : Nat} (h : old < need) : 4 * Builtin.nextslicecap need old ≤ 5 * need + 3072 := by
  unfold Builtin.nextslicecap
  split
  · omega
  · split
    · omega
    · exact growBy_le need 4 old (.inl h)
def notInt : TypeDesc → Bool
  | .int _ => false
  | _ => true
section
variable {P : Program} {E : En} {ts : Array TypeId} {ty t u e : TypeId} {d : TypeDesc} {size k n c : Nat} {base : Option Addr} {y' : Value} {new' : List Value} {w : World}
theorem run_append_in {w' : World} (h0 : ts[0]? = some t) (hu : P.underlying t = some (.slice e)) (h1 : ts[1]? = some u) (hd : P.underlying u = some d) (hz : notInt d = true) (hs : sizeOfT P e = some size)
    (hl : ∀ w, (Builtin.lenOf y').run P w = .ok k w) (hn : (Builtin.firstCells size k y').run P w = .ok ⟨new'⟩ w) (hle : n + k ≤ c)
    (hw : ((match base with
      | some a => storeCells (a.add (n * size)) new'
      | none => pure ()) : Sem Unit).run P w = .ok () w') :
    (Builtin.append_ ts ty ⟨[.slice base n c, y']⟩).run P w = .ok (.slice base (n + k) c) w' := by
  cases d <;> first | (cases hz; done) | skip
  all_goals
    simp only [Builtin.append_, Sem.run_bind, Sem.run_pure, Result.andThen_ok, h0, h1, List.getElem?_toArray, List.getElem?_cons_zero, List.getElem?_cons_succ, run_underlying hu, run_underlying hd, run_sizeOf w hs, Bool.false_eq_true, if_false, hl w, Bool.not_false, if_true, hn, hle]
    cases base with
    | none => cases hw; rfl
    | some a =>
      simp only at hw
      simp only [Sem.run_bind, hw, Result.andThen_ok, Sem.run_pure]
theorem run_append_new {old' : List Value} {ti : TypeInfo} {z : Value} (h0 : ts[0]? = some t) (hu : P.underlying t = some (.slice e)) (h1 : ts[1]? = some u) (hd : P.underlying u = some d) (hz : notInt d = true) (hs : sizeOfT P e = some size)
    (hl : ∀ w, (Builtin.lenOf y').run P w = .ok k w) (hn : (Builtin.firstCells size k y').run P { w with drawn := w.drawn + 1 } = .ok ⟨new'⟩ { w with drawn := w.drawn + 1 })
    (ho : (Builtin.firstCells size n (.slice base n c)).run P { w with drawn := w.drawn + 1 } = .ok ⟨old'⟩ { w with drawn := w.drawn + 1 })
    (hle : ¬ n + k ≤ c) (hsm : (5 * (n + k) + 3072) * ti.bytes ≤ 1125899906842624) (hti : P.info? e = some ti) (hby : n + k ≤ 4611686018427387904) (hzv : ti.zero = some z) :
    ∃ cp, n + k ≤ cp ∧ (Builtin.append_ ts ty ⟨[.slice base n c, y']⟩).run P w = .ok (.slice (some ⟨w.heap.size, 0, none⟩) (n + k) cp) { w with drawn := w.drawn + 1, heap := w.heap.push (.cells (⟨old'⟩ ++ ⟨new'⟩ ++ Builtin.zeroCells z.cells (cp - (n + k))) e) } := by
  have hmx : ¬ (((n + k : Nat) : Int) > IntKind.i64.max) := by
    intro h
    have : IntKind.i64.max = 9223372036854775807 := by decide
    rw [this] at h
    omega
  have hnx : ¬ (Builtin.nextslicecap (n + k) c * ti.bytes > 2 ^ 48) := by
    have h1 := nextcap_le (show c < n + k by omega)
    have h2 : (4 * Builtin.nextslicecap (n + k) c) * ti.bytes ≤ (5 * (n + k) + 3072) * ti.bytes := Nat.mul_le_mul_right _ h1
    rw [Nat.mul_assoc] at h2
    omega
  have hty : ∀ w : World, (typeInfo e).run P w = .ok ti w := fun w => by simp [typeInfo, hti]
  refine ⟨(Question.appendCap (n + k) c e).cut (w.tape w.drawn (.appendCap (n + k) c e)), Nat.le_add_right _ _, ?_⟩
  have hzr : ∀ w : World, (zeroValue e).run P w = .ok z w := fun w => by simp [zeroValue, typeInfo, hti, hzv]
  cases d <;> first | (cases hz; done) | skip
  all_goals
    simp only [Builtin.append_, Sem.run_bind, Sem.run_pure, Result.andThen_ok, h0, h1, List.getElem?_toArray, List.getElem?_cons_zero, List.getElem?_cons_succ, run_underlying hu, run_underlying hd, run_sizeOf w hs, Bool.false_eq_true, if_false, hl w, Bool.not_false, if_true, hle, hty, hmx, false_and, hnx, run_choose, Question.forced, run_askRoom, ho, hn, hzr, newRow, run_newObj]
end
end Go.Ev
