import Derived.Test.YtgglbjnfbfpiiaaGreatDoorH2zz
/-
  The evaluator: a plan, carried out.
-/
namespace Go.Ev
open Go
def Ac.nn : Ac → Nat | .mk n _ _ => n
def Ac.tm : Ac → Tr Value | .mk _ t _ => t
def Ac.df : Ac → List Deferred | .mk _ _ d => d
theorem Ac.eta (a : Ac) : a = .mk a.nn a.tm a.df := by cases a; rfl
theorem nxLe_iff {s s' : St} : nxLe s s' = true ↔ s.nx ≤ s'.nx := by
  obtain ⟨h, n, g⟩ := s
  obtain ⟨h', n', g'⟩ := s'
  exact ⟨fun h => Nat.le_of_ble_eq_true h, fun h => Nat.ble_eq_true_of_le h⟩
/-- What a plan went through. -/
structure Run (P : Program) (rec : Rec) (rd : Option Nat) (ops : List Oper) (l : List Sp) (a : Nat → Ac) (s : Nat → St) (pa : Nat → Past) : Prop where
  step : ∀ (m : Nat) (x : Sp), l[m]? = some x → oper P rec rd ops x.op (a m) (s m) = .ok (a (m + 1)) (s (m + 1)) ∧ (s m).nx ≤ (s (m + 1)).nx
  act : ∀ (m : Nat) (x : Sp), l[m]? = some x → x.kd = .acts → pa (m + 1) = (some x.ix, s (m + 1)) :: pa m
  rd : ∀ (m : Nat) (x : Sp), l[m]? = some x → x.kd = .reads → stoodO P ops (pa m) x.op x.ms (a m) (a (m + 1)) = true
  still : ∀ (m : Nat) (x : Sp), l[m]? = some x → x.kd ≠ .acts → pa (m + 1) = pa m
theorem walk_run {P : Program} {rec : Rec} {rd : Option Nat} {ops : List Oper} : ∀ {l : List Sp} {p : Past} {a0 a1 : Ac} {s0 s1 : St}, walk P rec rd ops l p a0 s0 = .ok a1 s1 →
    ∃ a s pa, Run P rec rd ops l a s pa ∧ a 0 = a0 ∧ s 0 = s0 ∧ pa 0 = p ∧ a l.length = a1 ∧ s l.length = s1
  | [], p, a0, a1, s0, s1, h => by
    cases h
    exact ⟨fun _ => a0, fun _ => s0, fun _ => p, ⟨fun m x hx => by simp at hx, fun m x hx => by simp at hx, fun m x hx => by simp at hx, fun m x hx => by simp at hx⟩, rfl, rfl, rfl, rfl, rfl⟩
  | .mk k i o mm :: l, p, a0, a1, s0, s1, h => by
    have h' : thenO (oper P rec rd ops o a0 s0) (fun a' s' => cond (nxLe s0 s') (walkK P ops k i o mm p a0 (walk P rec rd ops l) a' s') .no) = .ok a1 s1 := h
    cases ho : oper P rec rd ops o a0 s0 with
    | no => rw [ho] at h'; cases h'
    | ok a2 s2 =>
      rw [ho] at h'
      have h2 : cond (nxLe s0 s2) (walkK P ops k i o mm p a0 (walk P rec rd ops l) a2 s2) .no = .ok a1 s1 := h'
      cases hn : nxLe s0 s2 with
      | false => rw [hn] at h2; cases h2
      | true =>
        rw [hn] at h2
        have h3 : walkK P ops k i o mm p a0 (walk P rec rd ops l) a2 s2 = .ok a1 s1 := h2
        obtain ⟨p2, hw, hact, hstill, hrd⟩ : ∃ p2, walk P rec rd ops l p2 a2 s2 = .ok a1 s1 ∧ (k = .acts → p2 = (some i, s2) :: p) ∧ (k ≠ .acts → p2 = p) ∧ (k = .reads → stoodO P ops p o mm a0 a2 = true) := by
          unfold walkK at h3
          split at h3
          · exact ⟨_, h3, fun _ => rfl, fun h => absurd rfl h, fun h => by cases h⟩
          · cases hs : stoodO P ops p o mm a0 a2 with
            | false => rw [hs] at h3; cases h3
            | true => rw [hs] at h3; exact ⟨_, h3, fun h => by (cases h), fun _ => rfl, fun _ => rfl⟩
          · rename_i q1 q2
            exact ⟨_, h3, fun h => absurd h q1, fun _ => rfl, fun h => absurd h q2⟩
        obtain ⟨a, s, pa, W, e1, e2, e3, e4, e5⟩ := walk_run hw
        refine ⟨fun m => match m with | 0 => a0 | m + 1 => a m, fun m => match m with | 0 => s0 | m + 1 => s m, fun m => match m with | 0 => p | m + 1 => pa m, ⟨fun m x hx => ?_, fun m x hx hk => ?_, fun m x hx hk => ?_, fun m x hx hk => ?_⟩, rfl, rfl, rfl, e4, e5⟩
        · cases m with
          | zero =>
            simp at hx
            subst hx
            refine ⟨?_, ?_⟩
            · show oper P rec rd ops o a0 s0 = .ok (a 0) (s 0)
              rw [e1, e2]; exact ho
            · show s0.nx ≤ (s 0).nx
              rw [e2]; exact nxLe_iff.1 hn
          | succ m => exact W.step m x (by simpa using hx)
        · cases m with
          | zero =>
            simp at hx
            subst hx
            show pa 0 = (some i, s 0) :: p
            rw [e3, e2]; exact hact hk
          | succ m => exact W.act m x (by simpa using hx) hk
        · cases m with
          | zero =>
            simp at hx
            subst hx
            show stoodO P ops p o mm a0 (a 0) = true
            rw [e1]; exact hrd hk
          | succ m => exact W.rd m x (by simpa using hx) hk
        · cases m with
          | zero =>
            simp at hx
            subst hx
            show pa 0 = p
            rw [e3]; exact hstill hk
          | succ m => exact W.still m x (by simpa using hx) hk
section
variable {P : Program} {rec : Rec} {rd : Option Nat} {A : Array Oper} {l : List Sp} {a : Nat → Ac} {s : Nat → St} {pa : Nat → Past} {ms : List Nat}
theorem Run.size (W : Run P rec rd A.toList l a s pa) (hn : (a 0).nn ≤ 4611686018427387904) : ∀ m, m ≤ l.length → (a m).nn = (a 0).nn
  | 0, _ => rfl
  | m + 1, h => by
    have ih := W.size hn m (by omega)
    have hx := List.getElem?_eq_getElem (show m < l.length by omega)
    have h1 := (W.step m _ hx).1
    rw [(a m).eta] at h1
    obtain ⟨tm', df', e, _⟩ := oper_put (by rw [ih]; exact hn) h1
    rw [e]
    exact ih
theorem Run.dst (W : Run P rec rd A.toList l a s pa) (hn : (a 0).nn ≤ 4611686018427387904) {m : Nat} {x : Sp} (hx : l[m]? = some x) {t : Tmp} (ht : x.op.dst ≠ some t) : (a (m + 1)).tm.get t = (a m).tm.get t := by
  have h1 := (W.step m _ hx).1
  have hm := getElem?_lt hx
  rw [(a m).eta] at h1
  obtain ⟨tm', df', e, h2, _⟩ := oper_put (by rw [W.size hn m (by omega)]; exact hn) h1
  rw [e]
  exact h2 t ht
theorem Run.keep (W : Run P rec rd A.toList l a s pa) (hn : (a 0).nn ≤ 4611686018427387904) {t : Tmp} {m : Nat} : ∀ (d : Nat), m + d ≤ l.length → (∀ (j : Nat) (x : Sp), m ≤ j → j < m + d → l[j]? = some x → x.op.dst ≠ some t) → (a (m + d)).tm.get t = (a m).tm.get t
  | 0, _, _ => rfl
  | d + 1, h, hd => by
    have hx := List.getElem?_eq_getElem (show m + d < l.length by omega)
    rw [show m + (d + 1) = m + d + 1 by omega, W.dst hn hx (hd _ _ (by omega) (by omega) hx)]
    exact W.keep hn d (by omega) fun j x h1 h2 => hd j x h1 (by omega)
theorem Run.nx (W : Run P rec rd A.toList l a s pa) {m : Nat} : ∀ (d : Nat), m + d ≤ l.length → (s m).nx ≤ (s (m + d)).nx
  | 0, _ => Nat.le_refl _
  | d + 1, h => Nat.le_trans (W.nx d (by omega)) (W.step (m + d) _ (List.getElem?_eq_getElem (show m + d < l.length by omega))).2
theorem Run.nx' (W : Run P rec rd A.toList l a s pa) {m m' : Nat} (h : m ≤ m') (h' : m' ≤ l.length) : (s m).nx ≤ (s m').nx := by
  have := W.nx (m := m) (m' - m) (by omega)
  rwa [show m + (m' - m) = m' by omega] at this
/-- Behind its own operation a temporary stays. -/
theorem Run.own (W : Run P rec rd A.toList l a s pa) (K : PlanOk P A ms l) (hn : (a 0).nn ≤ 4611686018427387904) {m m' : Nat} {x : Sp} (hx : l[m]? = some x) {t : Tmp} (ht : x.op.dst = some t) (h1 : m < m') (h2 : m' ≤ l.length) : (a m').tm.get t = (a l.length).tm.get t := by
  have key := W.keep hn (t := t) (m := m') (l.length - m') (by omega) fun j y hj hj2 hy hd => by
    have := K.inj m j x y hx hy (K.dst _ _ _ _ t (K.op m x hx).1 (K.op j y hy).1 ht hd)
    omega
  rw [show m' + (l.length - m') = l.length by omega] at key
  exact key.symm
/-- Ahead of it, it is what it was. -/
theorem Run.old (W : Run P rec rd A.toList l a s pa) (hn : (a 0).nn ≤ 4611686018427387904) {m : Nat} {t : Tmp} (h2 : m ≤ l.length) (hd : ∀ (j : Nat) (x : Sp), j < m → l[j]? = some x → x.op.dst ≠ some t) : (a m).tm.get t = (a 0).tm.get t := by
  have := W.keep hn (t := t) (m := 0) m (by omega) fun j x _ h => hd j x (by omega)
  rwa [Nat.zero_add] at this
end
end Go.Ev
