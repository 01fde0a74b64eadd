import Derived.Test.YtdffoghdbfddmaaGreatDoorMszz
import Derived.Test.YtdffoghdbfddmaaGreatDoorLwzz
import Derived.Test.YtdffoghdbfddmaaGreatDoorChecked
/-
  The evaluator over any input: a row of entries that is written in place.
-/
namespace Go.Sy
open Go Go.Ev
theorem eqV4 {q : Option Addr} {n c : Nat} : eqV 4 (.slice q n c) (.slice q n c) = true := by
  show (q == q && Nat.beq n n && Nat.beq c c) = true
  rw [Nat.beq_refl, Nat.beq_refl, beq_self_eq_true]; rfl
theorem eqV_pair {q q' : Option Addr} {n c n' c' : Nat} : eqV 5 (.agg ⟨[.slice q n c, .slice q' n' c']⟩) (.agg ⟨[.slice q n c, .slice q' n' c']⟩) = true := by
  show eqL (eqV 4) [.slice q n c, .slice q' n' c'] [.slice q n c, .slice q' n' c'] = true
  simp only [eqL, eqV4]; rfl
theorem BsV.kpN {s0 s : St} {v : Value} {A : List Nat} (h : BsV s0 v A) (w : Wf s0) (k : Kp (fun c => s0.nx ≤ c) s0 s) : BsV s v A := by
  obtain ⟨q, c, h1, h2, h3⟩ := h
  obtain ⟨γ, h4, h5⟩ := At.sl h2
  exact ⟨q, c, h1, (h4.kp w k (by have := h5 w; omega)).at, h3⟩
theorem BsV.slc {s : St} {v : Value} {A : List Nat} (h : BsV s v A) : ∃ q c, v = .slice q A.length c := let ⟨q, c, h1, _⟩ := h; ⟨q, c, h1⟩
/-- An entry's two cells, and what they are. -/
abbrev El := (Value × Value) × Ety
def cel (l : List El) : List Value := l.flatMap fun x => [x.1.1, x.1.2]
theorem cel_cons {x : El} {l : List El} : cel (x :: l) = x.1.1 :: x.1.2 :: cel l := rfl
theorem cel_app {l m : List El} : cel (l ++ m) = cel l ++ cel m := List.flatMap_append
theorem cel_length : ∀ l : List El, (cel l).length = l.length * 2
  | [] => rfl
  | x :: l => by rw [cel_cons, List.length_cons, List.length_cons, cel_length l, List.length_cons]; omega
theorem cel_get : ∀ {l : List El} {i : Nat} {x : El}, l[i]? = some x → ((cel l).drop (i * 2)).take 2 = [x.1.1, x.1.2]
  | [], i, x, h => by simp at h
  | y :: l, 0, x, h => by cases h; rfl
  | y :: l, i + 1, x, h => by rw [cel_cons, show (i + 1) * 2 = i * 2 + 1 + 1 by omega, List.drop_succ_cons, List.drop_succ_cons]; exact cel_get (l := l) h
theorem cel_set : ∀ {l : List El} {i : Nat} {x : El}, i < l.length → lov (cel l) (i * 2) [x.1.1, x.1.2] = cel (l.set i x)
  | [], i, x, h => by simp at h
  | y :: l, 0, x, _ => rfl
  | y :: l, i + 1, x, h => by
    have ih := cel_set (l := l) (i := i) (x := x) (by simpa using h)
    unfold lov at ih ⊢
    rw [cel_cons, show (i + 1) * 2 = i * 2 + 1 + 1 by omega, List.take_succ_cons, List.take_succ_cons, List.set_cons_succ, cel_cons, ← ih, show i * 2 + 1 + 1 + [x.1.1, x.1.2].length = i * 2 + [x.1.1, x.1.2].length + 1 + 1 by omega, List.drop_succ_cons, List.drop_succ_cons]
    rfl
theorem cel_ent {s : St} : ∀ {l : List El}, (∀ x ∈ l, BsV s x.1.1 x.2.1 ∧ BsV s x.1.2 x.2.2) → Ent s (cel l) (l.map Prod.snd)
  | [], _ => trivial
  | x :: _, h => ⟨(h x List.mem_cons_self).1, (h x List.mem_cons_self).2, cel_ent fun y hy => h y (List.mem_cons_of_mem _ hy)⟩
/-- Cells that are entries, as a row of these. -/
theorem Ent.els {s : St} : ∀ {cs : List Value} {E : List Ety}, Ent s cs E → ∃ l : List El, cs = cel l ∧ E = l.map Prod.snd ∧ ∀ x ∈ l, BsV s x.1.1 x.2.1 ∧ BsV s x.1.2 x.2.2
  | [], [], _ => ⟨[], rfl, rfl, by simp⟩
  | [], _ :: _, h => h.elim
  | [_], [], h => h.elim
  | [_], _ :: _, h => h.elim
  | _ :: _ :: _, [], h => h.elim
  | k :: v :: cs, e :: E, h => by
    obtain ⟨l, rfl, rfl, h3⟩ := Ent.els h.2.2
    refine ⟨((k, v), e) :: l, rfl, rfl, fun x hx => ?_⟩
    rcases List.mem_cons.1 hx with rfl | hx
    · exact ⟨h.1, h.2.1⟩
    · exact h3 x hx
/-- A row of entries on its way; what the entries are was there at the beginning. -/
structure Dt (s0 s : St) (b : Nat) (l : List El) (γ : Nat) : Prop where
  w0 : Wf s0
  kp : Kp (fun c => s0.nx ≤ c) s0 s
  rw : Rw s b (cel l) γ
  ge : s0.nx ≤ γ
  ks : ∀ x ∈ l, BsV s0 x.1.1 x.2.1 ∧ BsV s0 x.1.2 x.2.2
section
variable {s0 s s' : St} {b γ : Nat} {l : List El}
theorem Dt.wf (h : Dt s0 s b l γ) : Wf s := h.kp.wf h.w0
theorem Dt.kn (h : Dt s0 s b l γ) (k : Kn s s') : Dt s0 s' b l γ := ⟨h.w0, h.kp.trans (k.mono fun _ e => e.elim), h.rw.kp h.wf k id, h.ge, h.ks⟩
theorem Dt.at (h : Dt s0 s b l γ) : At s (some ⟨b, 0, none⟩) (cel l) := by
  have := (h.rw.sl (o := 0) (n := (cel l).length) (by omega)).at
  rwa [List.drop_zero, List.take_length] at this
theorem Dt.ldn (h : Dt s0 s b l γ) {i : Nat} {x : El} (hx : l[i]? = some x) : ldn s (qadd (some ⟨b, 0, none⟩) (i * 2)) 2 = some [x.1.1, x.1.2] := by
  have hi : i < l.length := (List.getElem?_eq_some_iff.1 hx).1
  rw [At.ldn h.at (by rw [cel_length]; omega) (by decide), cel_get hx]
theorem Dt.el (h : Dt s0 s b l γ) {i : Nat} {x : El} (hx : l[i]? = some x) : ∃ q c q' c', x.1.1 = .slice q x.2.1.length c ∧ x.1.2 = .slice q' x.2.2.length c' ∧ Bs s q x.2.1 ∧ Bs s q' x.2.2 ∧ x.2.1.length < 2 ^ 60 ∧ x.2.2.length < 2 ^ 60 := by
  obtain ⟨h1, h2⟩ := h.ks x (List.mem_of_getElem? hx)
  obtain ⟨q, c, e1, b1, l1⟩ := h1.kpN h.w0 h.kp
  obtain ⟨q', c', e2, b2, l2⟩ := h2.kpN h.w0 h.kp
  exact ⟨q, c, q', c', e1, e2, b1, b2, l1, l2⟩
theorem Dt.eqv (h : Dt s0 s b l γ) {i : Nat} {x : El} (hx : l[i]? = some x) : eqV 5 (.agg ⟨[x.1.1, x.1.2]⟩) (.agg ⟨[x.1.1, x.1.2]⟩) = true := by
  obtain ⟨q, c, q', c', e1, e2, _⟩ := h.el hx
  rw [e1, e2]; exact eqV_pair
theorem Dt.one (h : Dt s0 s b l γ) {i : Nat} {x : El} (hx : l[i]? = some x) : ∀ v ∈ [x.1.1, x.1.2], one v = true := by
  obtain ⟨q, c, q', c', e1, e2, _⟩ := h.el hx
  rw [e1, e2]
  intro v hv
  simp only [List.mem_cons, List.not_mem_nil, or_false] at hv
  rcases hv with rfl | rfl <;> rfl
theorem Dt.set (h : Dt s0 s b l γ) {i : Nat} {x : El} (hi : i < l.length) (hr : Rw s' b (lov (cel l) (0 + i * 2) [x.1.1, x.1.2]) γ) (k : Kp (fun c => c = γ) s s') (hx : BsV s0 x.1.1 x.2.1 ∧ BsV s0 x.1.2 x.2.2) : Dt s0 s' b (l.set i x) γ := by
  refine ⟨h.w0, h.kp.trans (k.mono fun c e => by rw [e]; exact h.ge), ?_, h.ge, fun y hy => ?_⟩
  · rw [Nat.zero_add, cel_set hi] at hr; exact hr
  · rcases List.mem_or_eq_of_mem_set hy with hy | rfl
    · exact h.ks y hy
    · exact hx
theorem Dt.len (_h : Dt s0 s b l γ) {i : Nat} (hi : i < l.length) : 0 + i * 2 + 2 ≤ (cel l).length := by rw [cel_length]; omega
theorem Dt.bs (h : Dt s0 s b l γ) {i : Nat} {x : El} (hx : l[i]? = some x) : BsV s0 x.1.1 x.2.1 ∧ BsV s0 x.1.2 x.2.2 := h.ks x (List.mem_of_getElem? hx)
end
/-- Two changed places. -/
theorem swap_at {α : Type} {P M R : List α} {x y : α} {i j : Nat} (hi : P.length = i) (hj : i + 1 + M.length = j) : (((P ++ x :: (M ++ y :: R))).set i y).set j x = P ++ y :: (M ++ x :: R) ∧ (P ++ x :: (M ++ y :: R))[i]? = some x ∧ (P ++ x :: (M ++ y :: R))[j]? = some y := by
  subst hi hj
  refine ⟨?_, ?_, ?_⟩
  · rw [List.set_append_right _ _ (Nat.le_refl _), Nat.sub_self, List.set_cons_zero, List.set_append_right _ _ (by omega), show P.length + 1 + M.length - P.length = M.length + 1 by omega, List.set_cons_succ, List.set_append_right _ _ (Nat.le_refl _), Nat.sub_self, List.set_cons_zero]
  · rw [List.getElem?_append_right (Nat.le_refl _), Nat.sub_self]; rfl
  · rw [List.getElem?_append_right (by omega), show P.length + 1 + M.length - P.length = M.length + 1 by omega, List.getElem?_cons_succ, List.getElem?_append_right (Nat.le_refl _), Nat.sub_self]; rfl
theorem swap_at' {α : Type} {P R : List α} {x y : α} {i j : Nat} (hi : P.length = i) (hj : i + 1 = j) : (((P ++ x :: y :: R)).set j x).set i y = P ++ y :: x :: R ∧ (P ++ x :: y :: R)[i]? = some x ∧ (P ++ x :: y :: R)[j]? = some y := by
  have h := swap_at (P := P) (M := []) (R := R) (x := x) (y := y) hi hj
  simp only [List.nil_append] at h
  refine ⟨?_, h.2⟩
  rw [← h.1]
  exact List.set_comm _ _ (by omega)
end Go.Sy
/-
  The seat's types, as far as the functions ask.
-/
namespace Go.Proofs.YtdffoghdbfddmaaGreatDoor
open Go Go.Ev Go.Sy
set_option maxRecDepth 100000
def T : List TE := [⟨3, 1, .it .i64, some [.int .i64 0]⟩,
  ⟨23, 1, .sl 5, some [.slice none 0 0]⟩,
  ⟨5, 1, .it .u8, some [.int .u8 0]⟩,
  ⟨22, 1, .sl 25, some [.slice none 0 0]⟩,
  ⟨25, 5, .st [(0, 23), (1, 23), (2, 23), (3, 4), (4, 4)], some [.slice none 0 0, .slice none 0 0, .slice none 0 0, .bool false, .bool false]⟩,
  ⟨4, 1, .bl, some [.bool false]⟩,
  ⟨9, 1, .str, some [.string ⟨⟨[]⟩⟩]⟩,
  ⟨31, 1, .sl 23, some [.slice none 0 0]⟩,
  ⟨46, 1, .sl 45, some [.slice none 0 0]⟩,
  ⟨45, 2, .st [(0, 23), (1, 23)], some [.slice none 0 0, .slice none 0 0]⟩,
  ⟨33, 3, .st [(0, 23), (1, 23), (2, 4)], some [.slice none 0 0, .slice none 0 0, .bool false]⟩,
  ⟨27, 1, .sl 33, some [.slice none 0 0]⟩,
  ⟨41, 32, .ar 32 5, some [.int .u8 0, .int .u8 0, .int .u8 0, .int .u8 0, .int .u8 0, .int .u8 0, .int .u8 0, .int .u8 0, .int .u8 0, .int .u8 0, .int .u8 0, .int .u8 0, .int .u8 0, .int .u8 0, .int .u8 0, .int .u8 0, .int .u8 0, .int .u8 0, .int .u8 0, .int .u8 0, .int .u8 0, .int .u8 0, .int .u8 0, .int .u8 0, .int .u8 0, .int .u8 0, .int .u8 0, .int .u8 0, .int .u8 0, .int .u8 0, .int .u8 0, .int .u8 0]⟩,
  ⟨63, 1, .sl 69, some [.slice none 0 0]⟩,
  ⟨69, 34, .st [(0, 41), (32, 23), (33, 3)], some [.int .u8 0, .int .u8 0, .int .u8 0, .int .u8 0, .int .u8 0, .int .u8 0, .int .u8 0, .int .u8 0, .int .u8 0, .int .u8 0, .int .u8 0, .int .u8 0, .int .u8 0, .int .u8 0, .int .u8 0, .int .u8 0, .int .u8 0, .int .u8 0, .int .u8 0, .int .u8 0, .int .u8 0, .int .u8 0, .int .u8 0, .int .u8 0, .int .u8 0, .int .u8 0, .int .u8 0, .int .u8 0, .int .u8 0, .int .u8 0, .int .u8 0, .int .u8 0, .slice none 0 0, .int .i64 0]⟩,
  ⟨49, 6, .st [(0, 3), (1, 46), (2, 46), (3, 47), (4, 3), (5, 3)], some [.int .i64 0, .slice none 0 0, .slice none 0 0, .slice none 0 0, .int .i64 0, .int .i64 0]⟩,
  ⟨47, 1, .sl 62, some [.slice none 0 0]⟩,
  ⟨62, 3, .st [(0, 3), (1, 3), (2, 3)], some [.int .i64 0, .int .i64 0, .int .i64 0]⟩,
  ⟨67, 3, .st [(0, 63), (1, 64), (2, 65)], some [.slice none 0 0, .slice none 0 0, .pointer none]⟩,
  ⟨64, 1, .sl 41, some [.slice none 0 0]⟩,
  ⟨65, 1, .pt 260, some [.pointer none]⟩,
  ⟨260, 5, .st [(0, 257), (1, 258), (2, 3), (3, 58), (4, 64)], some [.pointer none, .pointer none, .int .i64 0, .slice none 0 0, .slice none 0 0]⟩,
  ⟨257, 1, .pt 276, some [.pointer none]⟩,
  ⟨276, 42, .st [(0, 3), (1, 3), (2, 271), (4, 272), (5, 58), (6, 264), (39, 273), (40, 274), (41, 4)], some [.int .i64 0, .int .i64 0, .slice none 0 0, .slice none 0 0, .slice none 0 0, .slice none 0 0, .int .i64 0, .int .u8 0, .int .u8 0, .int .u8 0, .int .u8 0, .int .u8 0, .int .u8 0, .int .u8 0, .int .u8 0, .int .u8 0, .int .u8 0, .int .u8 0, .int .u8 0, .int .u8 0, .int .u8 0, .int .u8 0, .int .u8 0, .int .u8 0, .int .u8 0, .int .u8 0, .int .u8 0, .int .u8 0, .int .u8 0, .int .u8 0, .int .u8 0, .int .u8 0, .int .u8 0, .int .u8 0, .int .u8 0, .int .u8 0, .int .u8 0, .int .u8 0, .int .u8 0, .slice none 0 0, .slice none 0 0, .bool false]⟩,
  ⟨271, 2, .st [(0, 58), (1, 23)], some [.slice none 0 0, .slice none 0 0]⟩,
  ⟨58, 1, .sl 90, some [.slice none 0 0]⟩,
  ⟨90, 33, .st [(0, 41), (32, 23)], some [.int .u8 0, .int .u8 0, .int .u8 0, .int .u8 0, .int .u8 0, .int .u8 0, .int .u8 0, .int .u8 0, .int .u8 0, .int .u8 0, .int .u8 0, .int .u8 0, .int .u8 0, .int .u8 0, .int .u8 0, .int .u8 0, .int .u8 0, .int .u8 0, .int .u8 0, .int .u8 0, .int .u8 0, .int .u8 0, .int .u8 0, .int .u8 0, .int .u8 0, .int .u8 0, .int .u8 0, .int .u8 0, .int .u8 0, .int .u8 0, .int .u8 0, .int .u8 0, .slice none 0 0]⟩,
  ⟨272, 1, .sl 271, some [.slice none 0 0]⟩,
  ⟨264, 33, .st [(0, 2), (1, 41)], some [.int .i64 0, .int .u8 0, .int .u8 0, .int .u8 0, .int .u8 0, .int .u8 0, .int .u8 0, .int .u8 0, .int .u8 0, .int .u8 0, .int .u8 0, .int .u8 0, .int .u8 0, .int .u8 0, .int .u8 0, .int .u8 0, .int .u8 0, .int .u8 0, .int .u8 0, .int .u8 0, .int .u8 0, .int .u8 0, .int .u8 0, .int .u8 0, .int .u8 0, .int .u8 0, .int .u8 0, .int .u8 0, .int .u8 0, .int .u8 0, .int .u8 0, .int .u8 0, .int .u8 0]⟩,
  ⟨2, 1, .it .i64, some [.int .i64 0]⟩,
  ⟨273, 1, .sl 278, some [.slice none 0 0]⟩,
  ⟨278, 3, .st [(0, 3), (1, 3), (2, 3)], some [.int .i64 0, .int .i64 0, .int .i64 0]⟩,
  ⟨274, 1, .sl 282, some [.slice none 0 0]⟩,
  ⟨282, 3, .st [(0, 3), (1, 3), (2, 4)], some [.int .i64 0, .int .i64 0, .bool false]⟩,
  ⟨258, 1, .pt 285, some [.pointer none]⟩,
  ⟨285, 6, .st [(0, 3), (1, 3), (2, 23), (3, 283), (4, 283), (5, 283)], some [.int .i64 0, .int .i64 0, .slice none 0 0, .slice none 0 0, .slice none 0 0, .slice none 0 0]⟩,
  ⟨283, 1, .sl 291, some [.slice none 0 0]⟩,
  ⟨291, 33, .st [(0, 23), (1, 41)], some [.slice none 0 0, .int .u8 0, .int .u8 0, .int .u8 0, .int .u8 0, .int .u8 0, .int .u8 0, .int .u8 0, .int .u8 0, .int .u8 0, .int .u8 0, .int .u8 0, .int .u8 0, .int .u8 0, .int .u8 0, .int .u8 0, .int .u8 0, .int .u8 0, .int .u8 0, .int .u8 0, .int .u8 0, .int .u8 0, .int .u8 0, .int .u8 0, .int .u8 0, .int .u8 0, .int .u8 0, .int .u8 0, .int .u8 0, .int .u8 0, .int .u8 0, .int .u8 0, .int .u8 0]⟩,
  ⟨72, 128, .ar 4 41, some [.int .u8 0, .int .u8 0, .int .u8 0, .int .u8 0, .int .u8 0, .int .u8 0, .int .u8 0, .int .u8 0, .int .u8 0, .int .u8 0, .int .u8 0, .int .u8 0, .int .u8 0, .int .u8 0, .int .u8 0, .int .u8 0, .int .u8 0, .int .u8 0, .int .u8 0, .int .u8 0, .int .u8 0, .int .u8 0, .int .u8 0, .int .u8 0, .int .u8 0, .int .u8 0, .int .u8 0, .int .u8 0, .int .u8 0, .int .u8 0, .int .u8 0, .int .u8 0, .int .u8 0, .int .u8 0, .int .u8 0, .int .u8 0, .int .u8 0, .int .u8 0, .int .u8 0, .int .u8 0, .int .u8 0, .int .u8 0, .int .u8 0, .int .u8 0, .int .u8 0, .int .u8 0, .int .u8 0, .int .u8 0, .int .u8 0, .int .u8 0, .int .u8 0, .int .u8 0, .int .u8 0, .int .u8 0, .int .u8 0, .int .u8 0, .int .u8 0, .int .u8 0, .int .u8 0, .int .u8 0, .int .u8 0, .int .u8 0, .int .u8 0, .int .u8 0, .int .u8 0, .int .u8 0, .int .u8 0, .int .u8 0, .int .u8 0, .int .u8 0, .int .u8 0, .int .u8 0, .int .u8 0, .int .u8 0, .int .u8 0, .int .u8 0, .int .u8 0, .int .u8 0, .int .u8 0, .int .u8 0, .int .u8 0, .int .u8 0, .int .u8 0, .int .u8 0, .int .u8 0, .int .u8 0, .int .u8 0, .int .u8 0, .int .u8 0, .int .u8 0, .int .u8 0, .int .u8 0, .int .u8 0, .int .u8 0, .int .u8 0, .int .u8 0, .int .u8 0, .int .u8 0, .int .u8 0, .int .u8 0, .int .u8 0, .int .u8 0, .int .u8 0, .int .u8 0, .int .u8 0, .int .u8 0, .int .u8 0, .int .u8 0, .int .u8 0, .int .u8 0, .int .u8 0, .int .u8 0, .int .u8 0, .int .u8 0, .int .u8 0, .int .u8 0, .int .u8 0, .int .u8 0, .int .u8 0, .int .u8 0, .int .u8 0, .int .u8 0, .int .u8 0, .int .u8 0, .int .u8 0, .int .u8 0, .int .u8 0, .int .u8 0]⟩,
  ⟨39, 1, .pt 67, some [.pointer none]⟩,
  ⟨74, 1, .ifc, some [.nilIface]⟩,
  ⟨53, 1, .pt 112, some [.pointer none]⟩,
  ⟨112, 42, .st [(0, 3), (1, 3), (2, 41), (34, 110), (36, 102), (38, 102), (40, 102)], some [.int .i64 0, .int .i64 0, .int .u8 0, .int .u8 0, .int .u8 0, .int .u8 0, .int .u8 0, .int .u8 0, .int .u8 0, .int .u8 0, .int .u8 0, .int .u8 0, .int .u8 0, .int .u8 0, .int .u8 0, .int .u8 0, .int .u8 0, .int .u8 0, .int .u8 0, .int .u8 0, .int .u8 0, .int .u8 0, .int .u8 0, .int .u8 0, .int .u8 0, .int .u8 0, .int .u8 0, .int .u8 0, .int .u8 0, .int .u8 0, .int .u8 0, .int .u8 0, .int .u8 0, .int .u8 0, .int .i32 0, .int .u32 0, .map none, .int .i64 0, .map none, .int .i64 0, .map none, .int .i64 0]⟩,
  ⟨110, 2, .st [(0, 105), (0, 108)], some [.int .i32 0, .int .u32 0]⟩,
  ⟨105, 0, .st [], some []⟩,
  ⟨108, 2, .st [(0, 21), (1, 106)], some [.int .i32 0, .int .u32 0]⟩,
  ⟨21, 1, .it .i32, some [.int .i32 0]⟩,
  ⟨106, 1, .it .u32, some [.int .u32 0]⟩,
  ⟨102, 2, .st [(0, 100), (1, 3)], some [.map none, .int .i64 0]⟩,
  ⟨100, 1, .mp 41 31, some [.map none]⟩,
  ⟨50, 1, .it .i64, some [.int .i64 0]⟩]
theorem T_ok : T.all (teB Tryz.prog) = true := by kernel_rfl
def V : List (Nat × Nat) := [(3, 8), (23, 24), (5, 1), (22, 24), (25, 80), (4, 1), (9, 16), (31, 24), (46, 24), (45, 48), (33, 56), (27, 24), (41, 32), (63, 24), (69, 64), (49, 96), (47, 24), (62, 24), (67, 56), (64, 24), (65, 8), (260, 72), (257, 8), (276, 208), (271, 48), (58, 24), (90, 56), (272, 24), (264, 40), (2, 8), (273, 24), (278, 24), (274, 24), (282, 24), (258, 8), (285, 112), (283, 24), (291, 56), (72, 128), (39, 8), (74, 16), (53, 8), (112, 104), (110, 8), (105, 0), (108, 8), (21, 4), (106, 4), (102, 16), (100, 8), (50, 8)]
theorem V_ok : (V.all fun p => isN (bytesOfT Tryz.prog p.1) p.2) = true := by kernel_rfl
def hasT (s : St) : List (Nat × List Value) → Bool
  | [] => true
  | (g, l) :: r => sameL (match readAt s g 0 l.length with | some cs => cs | none => []) l && hasT s r
/-- The call whose sentence is closed, at a stroke. -/
def fixH (args : List Value) (s : St) : Rv := match args with
  | [] => cond (hasT s Dg.tabs) (.ok (.bool true) s) .no
  | _ => .no
def fixK (f : FuncId) : Option (List Value → St → Rv) := cond (Nat.beq f 13) (some fixH) (Dg.hooks f)
noncomputable def B : Bx := ⟨Tryz.prog, fixK, T, T_ok, V, V_ok⟩
theorem fn3 : B.P.funcs[3]? = some Tryz.f3 := by kernel_rfl
theorem ok3 : callOk B.P 3 = true := by kernel_rfl
theorem fn4 : B.P.funcs[4]? = some Tryz.f4 := by kernel_rfl
theorem ok4 : callOk B.P 4 = true := by kernel_rfl
theorem fn5 : B.P.funcs[5]? = some Tryz.f5 := by kernel_rfl
theorem ok5 : callOk B.P 5 = true := by kernel_rfl
theorem fn6 : B.P.funcs[6]? = some Tryz.f6 := by kernel_rfl
theorem ok6 : callOk B.P 6 = true := by kernel_rfl
theorem fn7 : B.P.funcs[7]? = some Tryz.f7 := by kernel_rfl
theorem ok7 : callOk B.P 7 = true := by kernel_rfl
theorem fn8 : B.P.funcs[8]? = some Tryz.f8 := by kernel_rfl
theorem ok8 : callOk B.P 8 = true := by kernel_rfl
theorem fn9 : B.P.funcs[9]? = some Tryz.f9 := by kernel_rfl
theorem ok9 : callOk B.P 9 = true := by kernel_rfl
theorem fn10 : B.P.funcs[10]? = some Tryz.f10 := by kernel_rfl
theorem ok10 : callOk B.P 10 = true := by kernel_rfl
theorem fn11 : B.P.funcs[11]? = some Tryz.f11 := by kernel_rfl
theorem ok11 : callOk B.P 11 = true := by kernel_rfl
theorem fn12 : B.P.funcs[12]? = some Tryz.f12 := by kernel_rfl
theorem ok12 : callOk B.P 12 = true := by kernel_rfl
theorem fn13 : B.P.funcs[13]? = some Tryz.f13 := by kernel_rfl
theorem ok13 : callOk B.P 13 = true := by kernel_rfl
theorem fn14 : B.P.funcs[14]? = some Tryz.f14 := by kernel_rfl
theorem ok14 : callOk B.P 14 = true := by kernel_rfl
theorem fn15 : B.P.funcs[15]? = some Tryz.f15 := by kernel_rfl
theorem ok15 : callOk B.P 15 = true := by kernel_rfl
theorem fn16 : B.P.funcs[16]? = some Tryz.f16 := by kernel_rfl
theorem ok16 : callOk B.P 16 = true := by kernel_rfl
theorem fn19 : B.P.funcs[19]? = some Tryz.f19 := by kernel_rfl
theorem ok19 : callOk B.P 19 = true := by kernel_rfl
theorem fn21 : B.P.funcs[21]? = some Tryz.f21 := by kernel_rfl
theorem ok21 : callOk B.P 21 = true := by kernel_rfl
end Go.Proofs.YtdffoghdbfddmaaGreatDoor
