/-
  media.unless, (stay).same, (*Device).under$1, mayBe, (deed).to.
-/
import Derived.Test.YthjcndlapelnlaaCn
import Derived.Test.YthjcndlapelnlaaBe
namespace Go.Proofs.Ythjcndlapelnlaa
open Go.RowKit

set_option maxRecDepth 100000 in
theorem unless_any (w : World) (b : Bool) (e : Int) :
    Calls Try.prog 79 #[.bool b, .int .i64 e] w fun r w' => r = .returned (.int .i64 (if b = true then 0 else e)) ∧ w' = w := by
  cases b
  · go_enter Try.func79, Try.ntmps79
    go_wp2_with fail
    go_ret
    exact ⟨rfl, rfl⟩
  · go_enter Try.func79, Try.ntmps79
    go_wp2_with fail
    go_ret
    exact ⟨rfl, rfl⟩

/-- a stay as data -/
structure Sty where
  since : Int
  data : List Nat
  there : Bool
def stc (t : Int) (d : Value) (b : Bool) : List Value := [.int .i64 t, d, .bool b]
def Sty.same (s o : Sty) : Bool := decide (s.there = o.there ∧ s.data = o.data)
set_option maxRecDepth 100000 in
set_option maxHeartbeats 800000 in
theorem ssame_any {w : World} {s o : Sty} {v u : Value} (h : Vb w v s.data) (h' : Vb w u o.data) :
    Calls Try.prog 65 #[.agg #[.int .i64 s.since, v, .bool s.there], .agg #[.int .i64 o.since, u, .bool o.there]] w fun e w' => e = .returned (.bool (s.same o)) ∧ Below w.heap.size w w' := by
  obtain ⟨t, d, b⟩ := s
  obtain ⟨t', d', b'⟩ := o
  simp only at h h' ⊢
  have HB : Hid (∀ (x y : Obj), Below w.heap.size w ((w.alloc x).alloc y)) := fun x y => ((Below.refl w.heap.size w).alloc (Nat.le_refl _) x).alloc (by simp) y
  have HK : Hid (∀ (x y : Obj), Calls Try.prog 66 #[v, u] ((w.alloc x).alloc y) fun e w' => e = .returned (.bool (decide (d = d'))) ∧ w' = (w.alloc x).alloc y) := fun x y => by
    obtain ⟨a, bb, off, c, rfl, hv, _⟩ := h.keep (HB.out x y)
    obtain ⟨a', bb', off', c', rfl, hv', _⟩ := h'.keep (HB.out x y)
    exact bEqual_any hv hv'
  obtain ⟨av, nv, cv, ev⟩ : ∃ a n c, v = .slice a n c := by
    obtain ⟨a, bb, off, c, e, _⟩ := h
    exact ⟨a, _, c, e⟩
  obtain ⟨au, nu, cu, eu⟩ : ∃ a n c, u = .slice a n c := by
    obtain ⟨a, bb, off, c, e, _⟩ := h'
    exact ⟨a, _, c, e⟩
  subst ev
  subst eu
  clear h h'
  by_cases hb : b = b'
  · subst hb
    have HE : Hid ((Sty.mk t d b).same (Sty.mk t' d' b) = decide (d = d')) := by
      show decide (b = b ∧ d = d') = decide (d = d')
      exact decide_eq_decide.2 ⟨fun k => k.2, fun k => ⟨rfl, k⟩⟩
    generalize decide (d = d') = r at *
    have bb : (b == b) = true := by simp
    go_enter Try.func65, Try.ntmps65
    go_wp2_with fail
    refine (HK.out _ _).mono ?_
    rintro e w' ⟨rfl, rfl⟩
    go_wp2_with fail
    go_ret
    exact ⟨by rw [HE.out]; rfl, HB.out _ _⟩
  · have HE : Hid ((Sty.mk t d b).same (Sty.mk t' d' b') = false) := decide_eq_false (fun k => hb k.1)
    have bb : (b == b') = false := by simpa using hb
    clear hb
    go_enter Try.func65, Try.ntmps65
    go_wp2_with fail
    go_ret
    exact ⟨by rw [HE.out]; rfl, HB.out _ _⟩
set_option maxRecDepth 100000 in
theorem under1_any (w : World) (t : Int) (d : Value) (b : Bool) (u : Int) (h1 : -1099511627776 ≤ t) (h2 : t ≤ 1099511627776) (h3 : -1099511627776 ≤ u) (h4 : u ≤ 1099511627776) :
    Calls Try.prog 82 #[.agg #[.int .i64 t, d, .bool b], .int .i64 u] w fun e w' => e = .returned (.int .i64 (t - u)) ∧ Below w.heap.size w w' := by
  have HB : Hid (∀ (x : Obj), Below w.heap.size w (w.alloc x)) := fun x => (Below.refl w.heap.size w).alloc (Nat.le_refl _) x
  have hw : wrap64 (t - u) = t - u := by unfold wrap64; omega
  go_enter Try.func82, Try.ntmps82
  go_wp2_with fail
  go_ret
  exact ⟨rfl, HB.out _⟩
end Go.Proofs.Ythjcndlapelnlaa
