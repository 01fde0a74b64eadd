import Derived.Test.YtgglbjnfbfpiiaaGreatDoorG2zz
import Derived.Below
/-
  The evaluator: the whole.
-/
namespace Go.Ev
open Go Go.RowKit
section
variable {P : Program} {N : Nat}
/-- Functions whose contract is told. -/
def HookOk (N : Nat) (P : Program) (hook : FuncId → Option (List Value → St → Rv)) : Prop :=
  ∀ {f : FuncId} {g : List Value → St → Rv}, hook f = some g → ∀ {args args' : List Value} {s s' : St} {v : Value} {E : En} {w : World}, Rel N E s w → VRs E args args' → g args s = .ok v s' →
    Calls P f ⟨args'⟩ w fun e w' => ∃ E' v', e = .returned v' ∧ VR E' v v' ∧ Stp N E s w E' s' w'
theorem run_ok (hD : ∀ rec, RecOk N P rec → DrawOk N P rec) {hook : FuncId → Option (List Value → St → Rv)} (hH : HookOk N P hook) : ∀ n, RecOk N P (run P hook n) := by
  intro n
  induction n with
  | zero => exact ⟨fun _ _ hx => (by cases hx), fun _ _ hx => (by cases hx), fun _ _ _ hx => (by cases hx)⟩
  | succ n ih =>
    refine ⟨fun {f args args' s s' v E w} h ha hx cs => ?_, fun {f args args' s s' v E w} h ha hx c cs hc => ?_, fun {l args args' s s' v E w} h ha hl hx => ?_⟩
    · have hx' : (match hook f with
        | some g => orElse (g args s) (enter P (run P hook n) f args) s
        | none => enter P (run P hook n) f args s) = .ok v s' := hx
      split at hx'
      · rename_i g hg
        unfold orElse at hx'
        split at hx'
        case h_2 => exact enter_ok ih (hD _ ih) h ha hx' .normal cs (.inl rfl)
        rename_i v2 s2 hg2
        cases hx'
        replace hx' := hg2
        obtain ⟨e, w', fr, ⟨E', v', rfl, q1, q2⟩, q3, q4, q5, q6, q7, fn, q8, q9⟩ := hH hg h ha hx' cs
        exact ⟨E', w', v', fr, q2, q1, q3, q4, q7, q5, q6, fn, by rw [← q4]; exact q8, q9⟩
      · exact enter_ok ih (hD _ ih) h ha hx' .normal cs (.inl rfl)
    · exact enter_ok ih (hD _ ih) h ha (show enter P (run P hook n) f args s = .ok v s' from hx) .deferred (c :: cs) (.inr ⟨rfl, c, cs, rfl, hc⟩)
    · exact round_ok ih (hD _ ih) h ha hl (show round P (run P hook n) l args s = .ok v s' from hx)
/-- What the evaluator comes to, the program comes to. -/
theorem eval_calls (hD : ∀ rec, RecOk N P rec → DrawOk N P rec) {hook : FuncId → Option (List Value → St → Rv)} (hH : HookOk N P hook) {n : Nat} {f : FuncId} {args args' : List Value} {s s' : St} {v : Value} {E : En} {w : World} (h : Rel N E s w) (ha : VRs E args args')
    (hx : run P hook n (.call f args) s = .ok v s') : Calls P f ⟨args'⟩ w fun e w' => ∃ E' v', e = .returned v' ∧ VR E' v v' ∧ Stp N E s w E' s' w' := by
  intro cs
  obtain ⟨E', w', v', fr, z1, z2, z3, z4, z5, z6, z7, fn, z8, z9⟩ := (run_ok hD hH n).call h ha hx cs
  exact ⟨.returned v', w', fr, ⟨E', v', rfl, z2, z1⟩, z3, z4, z6, z7, z5, fn, by rw [z4]; exact z8, z9⟩
theorem Stp.below {E E' : En} {s s' : St} {w w' : World} (S : Stp N E s w E' s' w') (h : Rel N E s w) : Below N w w' :=
  ⟨S.os, S.tape, S.output, S.size, fun k hk => S.kept k (Nat.lt_of_lt_of_le hk h.flr) fun b o hb ho e => by have := h.flo b o hb ho; omega⟩
/-- The beginning: some tables that are read alone. -/
def start : En := { nx := 1000, ι := fun b => b, sh := fun _ => 0, sz := fun _ => 0 }
theorem rel_start {w : World} {hp : Tr Ob} (h : ∀ b o, hp.get b = some o → b < 1000 ∧ ∃ cs c t fr, o = .ro cs ∧ w.heap[b]? = some (.cells c t fr) ∧ ∀ (i : Nat) (v : Value), cs[i]? = some v → c[i]? = some v ∧ plain 1 v = true) : Rel w.heap.size start (.mk hp 1000 .nil) w := by
  refine ⟨rfl, Nat.le_refl _, (by show 1000 ≤ 1000 + 1; decide), fun b _ => ⟨rfl, rfl⟩, Nat.le_refl _, fun b o hb => ?_, fun b o hb ho => ?_, fun b o b' o' hb _ ho => ?_, fun b o hb hg => ?_, fun b o hb hd hr => ?_⟩
  · obtain ⟨h1, cs, c, t, fr, rfl, h2, h3⟩ := h b o hb
    exact ⟨h1, c, t, fr, h2, fun i v hv => ⟨v, by show c[0 + i]? = some v; rw [Nat.zero_add]; exact (h3 i v hv).1, plain_VR _ 1 v (h3 i v hv).2⟩⟩
  · obtain ⟨_, cs, c, t, fr, rfl, _⟩ := h b o hb; exact ho.elim
  · obtain ⟨_, cs, c, t, fr, rfl, _⟩ := h b o hb; exact ho.elim
  · obtain ⟨_, cs, c, t, fr, rfl, _⟩ := h b o hb; exact absurd rfl hg
  · obtain ⟨_, cs, c, t, fr, rfl, h2, _⟩ := h b o hb
    exact ObR.lt (E := start) (b := b) (o := .ro []) (w := w) ⟨c, t, fr, h2, fun i v hv => by simp at hv⟩ (fun e => by cases e)
end
end Go.Ev
