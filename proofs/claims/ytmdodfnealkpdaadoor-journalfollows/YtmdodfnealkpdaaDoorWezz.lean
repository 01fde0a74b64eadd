import Derived.Test.YtmdodfnealkpdaaDoorW9zz
/-
  The evaluator over any input: lists of entries.
-/
namespace Go.Sy
open Go Go.Ev
abbrev Ety := List Nat × List Nat
def key (E : List Ety) (i : Nat) : List Nat := (E.getD i ([], [])).1
def val (E : List Ety) (i : Nat) : List Nat := (E.getD i ([], [])).2
/-- A cell that is bytes. -/
def BsV (s : St) (v : Value) (A : List Nat) : Prop := ∃ q c, v = .slice q A.length c ∧ Bs s q A ∧ A.length < 2 ^ 60
theorem BsV.kn {s s' : St} {v : Value} {A : List Nat} (h : BsV s v A) (w : Wf s) (k : Kn s s') : BsV s' v A := let ⟨q, c, h1, h2, h3⟩ := h; ⟨q, c, h1, h2.kn w k, h3⟩
/-- Cells that are entries. -/
def Ent (s : St) : List Value → List Ety → Prop
  | [], [] => True
  | k :: v :: cs, e :: E => BsV s k e.1 ∧ BsV s v e.2 ∧ Ent s cs E
  | _, _ => False
theorem Ent.length {s : St} : ∀ {cs : List Value} {E : List Ety}, Ent s cs E → cs.length = E.length * 2
  | [], [], _ => rfl
  | [], _ :: _, h => h.elim
  | [_], [], h => h.elim
  | [_], _ :: _, h => h.elim
  | _ :: _ :: _, [], h => h.elim
  | _ :: _ :: cs, _ :: E, h => by have := Ent.length h.2.2; simp only [List.length_cons]; omega
theorem Ent.get {s : St} : ∀ {cs : List Value} {E : List Ety}, Ent s cs E → ∀ {i : Nat}, i < E.length → ∃ k v, cs[i * 2]? = some k ∧ cs[i * 2 + 1]? = some v ∧ BsV s k (key E i) ∧ BsV s v (val E i)
  | [], [], _, i, hi => by simp at hi
  | [], _ :: _, h, _, _ => h.elim
  | [_], [], h, _, _ => h.elim
  | [_], _ :: _, h, _, _ => h.elim
  | _ :: _ :: _, [], h, _, _ => h.elim
  | k :: v :: cs, e :: E, h, 0, _ => ⟨k, v, rfl, rfl, h.1, h.2.1⟩
  | k :: v :: cs, e :: E, h, i + 1, hi => by
    obtain ⟨k', v', h1, h2, h3, h4⟩ := Ent.get h.2.2 (i := i) (by simpa using hi)
    exact ⟨k', v', by rw [show (i + 1) * 2 = i * 2 + 1 + 1 by omega]; exact h1, by rw [show (i + 1) * 2 + 1 = i * 2 + 1 + 1 + 1 by omega]; exact h2, h3, h4⟩
theorem Ent.kn {s s' : St} (w : Wf s) (k : Kn s s') : ∀ {cs : List Value} {E : List Ety}, Ent s cs E → Ent s' cs E
  | [], [], _ => trivial
  | [], _ :: _, h => h.elim
  | [_], [], h => h.elim
  | [_], _ :: _, h => h.elim
  | _ :: _ :: _, [], h => h.elim
  | _ :: _ :: _cs, _ :: _E, h => ⟨h.1.kn w k, h.2.1.kn w k, Ent.kn w k h.2.2⟩
theorem Ent.app {s : St} {k v : Value} {e : Ety} : ∀ {cs : List Value} {E : List Ety}, Ent s cs E → BsV s k e.1 → BsV s v e.2 → Ent s (cs ++ [k, v]) (E ++ [e])
  | [], [], _, h1, h2 => ⟨h1, h2, trivial⟩
  | [], _ :: _, h, _, _ => h.elim
  | [_], [], h, _, _ => h.elim
  | [_], _ :: _, h, _, _ => h.elim
  | _ :: _ :: _, [], h, _, _ => h.elim
  | _ :: _ :: _cs, _ :: _E, h, h1, h2 => ⟨h.1, h.2.1, Ent.app h.2.2 h1 h2⟩
theorem Ent.one {s : St} : ∀ {cs : List Value} {E : List Ety}, Ent s cs E → ∀ v ∈ cs, one v = true
  | [], [], _, v, hv => by simp at hv
  | [], _ :: _, h, _, _ => h.elim
  | [_], [], h, _, _ => h.elim
  | [_], _ :: _, h, _, _ => h.elim
  | _ :: _ :: _, [], h, _, _ => h.elim
  | k :: v :: cs, e :: E, h, x, hx => by
    rcases List.mem_cons.1 hx with rfl | hx
    · obtain ⟨q, c, rfl, _⟩ := h.1; rfl
    · rcases List.mem_cons.1 hx with rfl | hx
      · obtain ⟨q, c, rfl, _⟩ := h.2.1; rfl
      · exact Ent.one h.2.2 x hx
/-- One entry's two lists, as they are loaded. -/
theorem Ent.ld {s : St} {q : Option Addr} {cs : List Value} {E : List Ety} (h : Ent s cs E) (ha : At s q cs) {i : Nat} (hi : i < E.length) :
    good q ∧ ∃ q1 c1 q2 c2, ldq s (qadd (qadd q (i * 2)) 0) = some (.slice q1 (key E i).length c1) ∧ ldq s (qadd (qadd q (i * 2)) 1) = some (.slice q2 (val E i).length c2) ∧ Bs s q1 (key E i) ∧ Bs s q2 (val E i) ∧ (key E i).length < 2 ^ 60 ∧ (val E i).length < 2 ^ 60 := by
  have hl := h.length
  obtain ⟨k, v, h1, h2, ⟨q1, c1, rfl, h3, h5⟩, ⟨q2, c2, rfl, h4, h6⟩⟩ := h.get hi
  refine ⟨At.good ha (i := i * 2) (by omega), q1, c1, q2, c2, ?_, ?_, h3, h4, h5, h6⟩
  · rw [qadd_qadd, At.ld ha (i := i * 2 + 0) (by omega), ← List.getElem?_eq_getElem]; exact h1
  · rw [qadd_qadd, At.ld ha (i := i * 2 + 1) (by omega), ← List.getElem?_eq_getElem]; exact h2
theorem ety_ext {E D : List Ety} (hl : E.length = D.length) (h : ∀ i, i < E.length → key E i = key D i ∧ val E i = val D i) : E = D := by
  refine List.ext_getElem hl fun i h1 h2 => ?_
  obtain ⟨a, b⟩ := h i h1
  unfold key val at *
  rw [List.getD_eq_getElem?_getD, List.getD_eq_getElem?_getD, List.getElem?_eq_getElem h1, List.getElem?_eq_getElem h2] at a b
  exact Prod.ext a b
end Go.Sy
