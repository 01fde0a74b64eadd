import Derived.Test.YtmdodfnealkpdaaDoorMszz
/-
  The evaluator over any input: a row of entries that is written in place.
-/
namespace Go.Sy
open Go Go.Ev
theorem eqV4 {q : Option Addr} {n c : Nat} : eqV 4 (.slice q n c) (.slice q n c) = true := by
  show (q == q && Nat.beq n n && Nat.beq c c) = true
  rw [Nat.beq_refl, Nat.beq_refl, beq_self_eq_true]; rfl
theorem eqV_pair {q q' : Option Addr} {n c n' c' : Nat} : eqV 5 (.agg ⟨[.slice q n c, .slice q' n' c']⟩) (.agg ⟨[.slice q n c, .slice q' n' c']⟩) = true := by
  show eqL (eqV 4) [.slice q n c, .slice q' n' c'] [.slice q n c, .slice q' n' c'] = true
  simp only [eqL, eqV4]; rfl
theorem BsV.kpN {s0 s : St} {v : Value} {A : List Nat} (h : BsV s0 v A) (w : Wf s0) (k : Kp (fun c => s0.nx ≤ c) s0 s) : BsV s v A := by
  obtain ⟨q, c, h1, h2, h3⟩ := h
  obtain ⟨γ, h4, h5⟩ := At.sl h2
  exact ⟨q, c, h1, (h4.kp w k (by have := h5 w; omega)).at, h3⟩
theorem BsV.slc {s : St} {v : Value} {A : List Nat} (h : BsV s v A) : ∃ q c, v = .slice q A.length c := let ⟨q, c, h1, _⟩ := h; ⟨q, c, h1⟩
/-- An entry's two cells, and what they are. -/
abbrev El := (Value × Value) × Ety
def cel (l : List El) : List Value := l.flatMap fun x => [x.1.1, x.1.2]
theorem cel_cons {x : El} {l : List El} : cel (x :: l) = x.1.1 :: x.1.2 :: cel l := rfl
theorem cel_app {l m : List El} : cel (l ++ m) = cel l ++ cel m := List.flatMap_append
theorem cel_length : ∀ l : List El, (cel l).length = l.length * 2
  | [] => rfl
  | x :: l => by rw [cel_cons, List.length_cons, List.length_cons, cel_length l, List.length_cons]; omega
theorem cel_get : ∀ {l : List El} {i : Nat} {x : El}, l[i]? = some x → ((cel l).drop (i * 2)).take 2 = [x.1.1, x.1.2]
  | [], i, x, h => by simp at h
  | y :: l, 0, x, h => by cases h; rfl
  | y :: l, i + 1, x, h => by rw [cel_cons, show (i + 1) * 2 = i * 2 + 1 + 1 by omega, List.drop_succ_cons, List.drop_succ_cons]; exact cel_get (l := l) h
theorem cel_set : ∀ {l : List El} {i : Nat} {x : El}, i < l.length → lov (cel l) (i * 2) [x.1.1, x.1.2] = cel (l.set i x)
  | [], i, x, h => by simp at h
  | y :: l, 0, x, _ => rfl
  | y :: l, i + 1, x, h => by
    have ih := cel_set (l := l) (i := i) (x := x) (by simpa using h)
    unfold lov at ih ⊢
    rw [cel_cons, show (i + 1) * 2 = i * 2 + 1 + 1 by omega, List.take_succ_cons, List.take_succ_cons, List.set_cons_succ, cel_cons, ← ih, show i * 2 + 1 + 1 + [x.1.1, x.1.2].length = i * 2 + [x.1.1, x.1.2].length + 1 + 1 by omega, List.drop_succ_cons, List.drop_succ_cons]
    rfl
theorem cel_ent {s : St} : ∀ {l : List El}, (∀ x ∈ l, BsV s x.1.1 x.2.1 ∧ BsV s x.1.2 x.2.2) → Ent s (cel l) (l.map Prod.snd)
  | [], _ => trivial
  | x :: _, h => ⟨(h x List.mem_cons_self).1, (h x List.mem_cons_self).2, cel_ent fun y hy => h y (List.mem_cons_of_mem _ hy)⟩
/-- Cells that are entries, as a row of these. -/
theorem Ent.els {s : St} : ∀ {cs : List Value} {E : List Ety}, Ent s cs E → ∃ l : List El, cs = cel l ∧ E = l.map Prod.snd ∧ ∀ x ∈ l, BsV s x.1.1 x.2.1 ∧ BsV s x.1.2 x.2.2
  | [], [], _ => ⟨[], rfl, rfl, by simp⟩
  | [], _ :: _, h => h.elim
  | [_], [], h => h.elim
  | [_], _ :: _, h => h.elim
  | _ :: _ :: _, [], h => h.elim
  | k :: v :: cs, e :: E, h => by
    obtain ⟨l, rfl, rfl, h3⟩ := Ent.els h.2.2
    refine ⟨((k, v), e) :: l, rfl, rfl, fun x hx => ?_⟩
    rcases List.mem_cons.1 hx with rfl | hx
    · exact ⟨h.1, h.2.1⟩
    · exact h3 x hx
/-- A row of entries on its way; what the entries are was there at the beginning. -/
structure Dt (s0 s : St) (b : Nat) (l : List El) (γ : Nat) : Prop where
  w0 : Wf s0
  kp : Kp (fun c => s0.nx ≤ c) s0 s
  rw : Rw s b (cel l) γ
  ge : s0.nx ≤ γ
  ks : ∀ x ∈ l, BsV s0 x.1.1 x.2.1 ∧ BsV s0 x.1.2 x.2.2
section
variable {s0 s s' : St} {b γ : Nat} {l : List El}
theorem Dt.wf (h : Dt s0 s b l γ) : Wf s := h.kp.wf h.w0
theorem Dt.kn (h : Dt s0 s b l γ) (k : Kn s s') : Dt s0 s' b l γ := ⟨h.w0, h.kp.trans (k.mono fun _ e => e.elim), h.rw.kp h.wf k id, h.ge, h.ks⟩
theorem Dt.at (h : Dt s0 s b l γ) : At s (some ⟨b, 0, none⟩) (cel l) := by
  have := (h.rw.sl (o := 0) (n := (cel l).length) (by omega)).at
  rwa [List.drop_zero, List.take_length] at this
theorem Dt.ldn (h : Dt s0 s b l γ) {i : Nat} {x : El} (hx : l[i]? = some x) : ldn s (qadd (some ⟨b, 0, none⟩) (i * 2)) 2 = some [x.1.1, x.1.2] := by
  have hi : i < l.length := (List.getElem?_eq_some_iff.1 hx).1
  rw [At.ldn h.at (by rw [cel_length]; omega) (by decide), cel_get hx]
theorem Dt.el (h : Dt s0 s b l γ) {i : Nat} {x : El} (hx : l[i]? = some x) : ∃ q c q' c', x.1.1 = .slice q x.2.1.length c ∧ x.1.2 = .slice q' x.2.2.length c' ∧ Bs s q x.2.1 ∧ Bs s q' x.2.2 ∧ x.2.1.length < 2 ^ 60 ∧ x.2.2.length < 2 ^ 60 := by
  obtain ⟨h1, h2⟩ := h.ks x (List.mem_of_getElem? hx)
  obtain ⟨q, c, e1, b1, l1⟩ := h1.kpN h.w0 h.kp
  obtain ⟨q', c', e2, b2, l2⟩ := h2.kpN h.w0 h.kp
  exact ⟨q, c, q', c', e1, e2, b1, b2, l1, l2⟩
theorem Dt.eqv (h : Dt s0 s b l γ) {i : Nat} {x : El} (hx : l[i]? = some x) : eqV 5 (.agg ⟨[x.1.1, x.1.2]⟩) (.agg ⟨[x.1.1, x.1.2]⟩) = true := by
  obtain ⟨q, c, q', c', e1, e2, _⟩ := h.el hx
  rw [e1, e2]; exact eqV_pair
theorem Dt.one (h : Dt s0 s b l γ) {i : Nat} {x : El} (hx : l[i]? = some x) : ∀ v ∈ [x.1.1, x.1.2], one v = true := by
  obtain ⟨q, c, q', c', e1, e2, _⟩ := h.el hx
  rw [e1, e2]
  intro v hv
  simp only [List.mem_cons, List.not_mem_nil, or_false] at hv
  rcases hv with rfl | rfl <;> rfl
theorem Dt.set (h : Dt s0 s b l γ) {i : Nat} {x : El} (hi : i < l.length) (hr : Rw s' b (lov (cel l) (0 + i * 2) [x.1.1, x.1.2]) γ) (k : Kp (fun c => c = γ) s s') (hx : BsV s0 x.1.1 x.2.1 ∧ BsV s0 x.1.2 x.2.2) : Dt s0 s' b (l.set i x) γ := by
  refine ⟨h.w0, h.kp.trans (k.mono fun c e => by rw [e]; exact h.ge), ?_, h.ge, fun y hy => ?_⟩
  · rw [Nat.zero_add, cel_set hi] at hr; exact hr
  · rcases List.mem_or_eq_of_mem_set hy with hy | rfl
    · exact h.ks y hy
    · exact hx
theorem Dt.len (_h : Dt s0 s b l γ) {i : Nat} (hi : i < l.length) : 0 + i * 2 + 2 ≤ (cel l).length := by rw [cel_length]; omega
theorem Dt.bs (h : Dt s0 s b l γ) {i : Nat} {x : El} (hx : l[i]? = some x) : BsV s0 x.1.1 x.2.1 ∧ BsV s0 x.1.2 x.2.2 := h.ks x (List.mem_of_getElem? hx)
end
/-- Two changed places. -/
theorem swap_at {α : Type} {P M R : List α} {x y : α} {i j : Nat} (hi : P.length = i) (hj : i + 1 + M.length = j) : (((P ++ x :: (M ++ y :: R))).set i y).set j x = P ++ y :: (M ++ x :: R) ∧ (P ++ x :: (M ++ y :: R))[i]? = some x ∧ (P ++ x :: (M ++ y :: R))[j]? = some y := by
  subst hi hj
  refine ⟨?_, ?_, ?_⟩
  · rw [List.set_append_right _ _ (Nat.le_refl _), Nat.sub_self, List.set_cons_zero, List.set_append_right _ _ (by omega), show P.length + 1 + M.length - P.length = M.length + 1 by omega, List.set_cons_succ, List.set_append_right _ _ (Nat.le_refl _), Nat.sub_self, List.set_cons_zero]
  · rw [List.getElem?_append_right (Nat.le_refl _), Nat.sub_self]; rfl
  · rw [List.getElem?_append_right (by omega), show P.length + 1 + M.length - P.length = M.length + 1 by omega, List.getElem?_cons_succ, List.getElem?_append_right (Nat.le_refl _), Nat.sub_self]; rfl
theorem swap_at' {α : Type} {P R : List α} {x y : α} {i j : Nat} (hi : P.length = i) (hj : i + 1 = j) : (((P ++ x :: y :: R)).set j x).set i y = P ++ y :: x :: R ∧ (P ++ x :: y :: R)[i]? = some x ∧ (P ++ x :: y :: R)[j]? = some y := by
  have h := swap_at (P := P) (M := []) (R := R) (x := x) (y := y) hi hj
  simp only [List.nil_append] at h
  refine ⟨?_, h.2⟩
  rw [← h.1]
  exact List.set_comm _ _ (by omega)
end Go.Sy
