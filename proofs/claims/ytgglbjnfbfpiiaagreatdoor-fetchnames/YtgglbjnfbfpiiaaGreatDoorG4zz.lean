import Derived.Test.YtgglbjnfbfpiiaaGreatDoorG3zz
import Derived.Test.YtgglbjnfbfpiiaaGreatDoorH7zz
/-
  The evaluator: closed sentences.
-/
namespace Go.Ev
open Go Go.RowKit
/-- Tables that are read alone. -/
def tables (tabs : List (Nat × List Value)) : Tr Ob := tabs.foldr (fun p t => t.set (.ro p.2) p.1) .nil
theorem tables_get : ∀ (tabs : List (Nat × List Value)), (∀ p ∈ tabs, p.1 < 1000) → ∀ b o, (tables tabs).get b = some o → ∃ p ∈ tabs, b = p.1 ∧ o = .ro p.2
  | [], _, b, o, h => by rw [show tables [] = .nil from rfl, Tr.get_nil] at h; cases h
  | p :: tabs, hlt, b, o, h => by
    have h' : ((tables tabs).set (.ro p.2) p.1).get b = some o := h
    have := hlt p List.mem_cons_self
    rw [Tr.get_set _ _ _ (by omega)] at h'
    split at h'
    · rename_i e
      cases h'
      exact ⟨p, List.mem_cons_self, e, rfl⟩
    · obtain ⟨q, h1, h2⟩ := tables_get tabs (fun q hq => hlt q (List.mem_cons_of_mem _ hq)) b o h'
      exact ⟨q, List.mem_cons_of_mem _ h1, h2⟩
/-- The answer is yes. -/
def isT (r : Rv) : Bool := match r with
  | .ok (.bool true) _ => true
  | _ => false
/-- A closed sentence that the evaluator finds true. -/
theorem closed {P : Program} {hook : FuncId → Option (List Value → St → Rv)} (hm : P.follows .mixedOrders = true) {f : FuncId} {n : Nat} {tabs : List (Nat × List Value)} {W : World} (hH : HookOk W.heap.size P hook)
    (ht : ∀ p ∈ tabs, p.1 < 1000 ∧ ∃ c t fr, W.heap[p.1]? = some (.cells c t fr) ∧ ∀ (i : Nat) (v : Value), p.2[i]? = some v → c[i]? = some v ∧ plain 1 v = true)
    (hx : isT (run P hook n (.call f []) (.mk (tables tabs) 1000 .nil)) = true) :
    Calls P f #[] W fun e W' => e = .returned (.bool true) ∧ Below W.heap.size W W' := by
  have hr := rel_start (w := W) (hp := tables tabs) fun b o hb => by
    obtain ⟨p, h1, rfl, rfl⟩ := tables_get tabs (fun p hp => (ht p hp).1) b o hb
    obtain ⟨h2, c, t, fr, h3, h4⟩ := ht p h1
    exact ⟨h2, p.2, c, t, fr, rfl, h3, h4⟩
  cases hv : run P hook n (.call f []) (.mk (tables tabs) 1000 .nil) with
  | no => rw [hv] at hx; cases hx
  | ok v s' =>
    rw [hv] at hx
    have e : v = .bool true := by
      unfold isT at hx
      split at hx
      · rename_i h; cases h; rfl
      · cases hx
    subst e
    refine (eval_calls (fun rec R => draw_ok hm R) hH hr .nil hv).mono fun e W' ⟨E', v', h1, h2, h3⟩ => ?_
    rw [h2.bool_inv] at h1
    exact ⟨h1, h3.below hr⟩
end Go.Ev
