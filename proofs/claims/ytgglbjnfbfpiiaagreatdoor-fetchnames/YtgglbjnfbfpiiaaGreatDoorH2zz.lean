import Derived.Test.YtgglbjnfbfpiiaaGreatDoorH1zz
/-
  The evaluator: plans.
-/
namespace Go.Ev
open Go
def Sp.kd : Sp → Kd | .mk k _ _ _ => k
def Sp.ix : Sp → Nat | .mk _ i _ _ => i
def Sp.op : Sp → Oper | .mk _ _ o _ => o
def Sp.ms : Sp → Nat | .mk _ _ _ m => m
theorem isActs_iff {k : Kd} : isActs k = true ↔ k = .acts := by cases k <;> simp [isActs]
/-! ### What comes ahead -/
theorem masks_keep : ∀ (os : List Oper) (acc : List Nat), ∃ l, masks os acc = acc ++ l ∧ l.length = os.length
  | [], acc => ⟨[], by simp [masks], rfl⟩
  | o :: os, acc => by
    obtain ⟨l, h1, h2⟩ := masks_keep os (acc ++ [o.after.toList.foldl (fun m e => cond (Region.binds .any e) (Nat.lor (Nat.lor m (Nat.pow 2 e.on)) (acc.getD e.on 0)) m) 0])
    exact ⟨_ :: l, by rw [masks, h1, List.append_assoc]; rfl, by simp [h2]⟩
theorem fold_bit (acc : List Nat) (k : Nat) : ∀ (es : List Edge) (m : Nat), Nat.testBit (es.foldl (fun m e => cond (Region.binds .any e) (Nat.lor (Nat.lor m (Nat.pow 2 e.on)) (acc.getD e.on 0)) m) m) k = true →
    Nat.testBit m k = true ∨ ∃ e ∈ es, Region.binds .any e = true ∧ (k = e.on ∨ Nat.testBit (acc.getD e.on 0) k = true)
  | [], m, h => .inl h
  | e :: es, m, h => by
    rcases fold_bit acc k es _ h with h1 | ⟨e', h1, h2⟩
    · replace h1 : Nat.testBit (cond (Region.binds .any e) (Nat.lor (Nat.lor m (Nat.pow 2 e.on)) (acc.getD e.on 0)) m) k = true := h1
      cases hb : Region.binds .any e with
      | false => rw [hb] at h1; exact .inl h1
      | true =>
        rw [hb] at h1
        have h1' : Nat.testBit ((m ||| 2 ^ e.on) ||| acc.getD e.on 0) k = true := h1
        rw [Nat.testBit_or, Nat.testBit_or, Nat.testBit_two_pow] at h1'
        simp only [Bool.or_eq_true, decide_eq_true_eq] at h1'
        rcases h1' with (h3 | h3) | h3
        · exact .inl h3
        · exact .inr ⟨e, List.mem_cons_self, hb, .inl h3.symm⟩
        · exact .inr ⟨e, List.mem_cons_self, hb, .inr h3⟩
    · exact .inr ⟨e', List.mem_cons_of_mem _ h1, h2⟩
theorem masks_bit : ∀ (os : List Oper) (acc : List Nat) (j : Nat) (o : Oper) (k : Nat), os[j]? = some o → Nat.testBit ((masks os acc).getD (acc.length + j) 0) k = true →
    ∃ e ∈ o.after.toList, Region.binds .any e = true ∧ (k = e.on ∨ Nat.testBit ((masks os acc).getD e.on 0) k = true)
  | [], _, _, _, _, h, _ => by simp at h
  | o :: os, acc, 0, o', k, h, hb => by
    simp at h
    subst h
    obtain ⟨l, h1, h2⟩ := masks_keep os (acc ++ [o.after.toList.foldl (fun m e => cond (Region.binds .any e) (Nat.lor (Nat.lor m (Nat.pow 2 e.on)) (acc.getD e.on 0)) m) 0])
    have hm : masks (o :: os) acc = acc ++ ([o.after.toList.foldl (fun m e => cond (Region.binds .any e) (Nat.lor (Nat.lor m (Nat.pow 2 e.on)) (acc.getD e.on 0)) m) 0] ++ l) := by
      rw [masks, h1, List.append_assoc]
    rw [hm] at hb ⊢
    have hg : (acc ++ ([o.after.toList.foldl (fun m e => cond (Region.binds .any e) (Nat.lor (Nat.lor m (Nat.pow 2 e.on)) (acc.getD e.on 0)) m) 0] ++ l)).getD (acc.length + 0) 0 = o.after.toList.foldl (fun m e => cond (Region.binds .any e) (Nat.lor (Nat.lor m (Nat.pow 2 e.on)) (acc.getD e.on 0)) m) 0 := by
      simp [List.getD_eq_getElem?_getD]
    rw [hg] at hb
    rcases fold_bit acc k _ _ hb with h3 | ⟨e, h3, h4, h5⟩
    · simp at h3
    · refine ⟨e, h3, h4, ?_⟩
      rcases h5 with h5 | h5
      · exact .inl h5
      · refine .inr ?_
        have hlt : e.on < acc.length := by
          rcases Nat.lt_or_ge e.on acc.length with h | h
          · exact h
          · rw [List.getD_eq_getElem?_getD, List.getElem?_eq_none h] at h5; simp at h5
        rw [List.getD_eq_getElem?_getD, List.getElem?_append_left hlt, ← List.getD_eq_getElem?_getD]
        exact h5
  | o :: os, acc, j + 1, o', k, h, hb => by
    have h' : os[j]? = some o' := by simpa using h
    rw [masks] at hb ⊢
    refine masks_bit os _ j o' k h' ?_
    rw [List.length_append, List.length_singleton, show acc.length + 1 + j = acc.length + (j + 1) by omega]
    exact hb
/-! ### The order -/
theorem resolve_spec {P : Program} {ops : List Oper} {ms : List Nat} : ∀ {is : List Nat} {l : List Sp}, resolveP P ops ms is = some l → ∀ x ∈ l, ops[x.ix]? = some x.op ∧ x.kd = kindOf P x.op.op ∧ x.ms = ms.getD x.ix 0
  | [], l, h, x, hx => by cases h; cases hx
  | i :: is, l, h, x, hx => by
    unfold resolveP at h
    split at h
    · rename_i o l' ho hl
      cases h
      rcases List.mem_cons.1 hx with rfl | hx
      · exact ⟨ho, rfl, rfl⟩
      · exact resolve_spec hl x hx
    · cases h
theorem kOf_spec {t : Tmp} : ∀ {os : List Oper} {i k : Nat}, kOf t os i = some k → i ≤ k ∧ ∃ o, os[k - i]? = some o ∧ o.dst = some t
  | [], i, k, h => by cases h
  | o :: os, i, k, h => by
    unfold kOf at h
    have rest : kOf t os (i + 1) = some k → i ≤ k ∧ ∃ o', (o :: os)[k - i]? = some o' ∧ o'.dst = some t := by
      intro h
      obtain ⟨h1, o', h2, h3⟩ := kOf_spec h
      refine ⟨by omega, o', ?_, h3⟩
      rw [show k - i = (k - (i + 1)) + 1 by omega, List.getElem?_cons_succ]
      exact h2
    split at h
    · rename_i d hd
      cases hb : Nat.beq d t with
      | false => rw [hb] at h; exact rest h
      | true =>
        rw [hb] at h
        cases h
        exact ⟨Nat.le_refl _, o, by simp, by rw [hd, Nat.eq_of_beq_eq_true hb]⟩
    · exact rest h
theorem dstOk_spec {ops : List Oper} : ∀ {os : List Oper} {i : Nat}, dstOk ops os i = true → ∀ (j : Nat) (o : Oper) (t : Tmp), os[j]? = some o → o.dst = some t → kOf t ops 0 = some (i + j)
  | [], i, _, j, o, t, h, _ => by simp at h
  | o :: os, i, h, j, o', t, hj, ht => by
    unfold dstOk at h
    cases j with
    | zero =>
      simp at hj
      subst hj
      rw [ht] at h
      obtain ⟨h1, _⟩ := Bool.and_eq_true_iff.1 h
      unfold isI at h1
      split at h1
      · rename_i k hk
        rw [hk, Nat.eq_of_beq_eq_true h1]; rfl
      · cases h1
    | succ j =>
      have hj' : os[j]? = some o' := by simpa using hj
      have h2 : dstOk ops os (i + 1) = true := by
        split at h
        · exact (Bool.and_eq_true_iff.1 h).2
        · exact h
      rw [dstOk_spec h2 j o' t hj' ht]
      congr 1; omega
theorem backOk_spec : ∀ {os : List Oper} {i : Nat}, backOk os i = true → ∀ (j : Nat) (o : Oper) (e : Edge), os[j]? = some o → e ∈ o.after.toList → Region.binds .any e = true → e.on < i + j
  | [], i, _, j, o, e, h, _, _ => by simp at h
  | o :: os, i, h, j, o', e, hj, he, hb => by
    unfold backOk at h
    obtain ⟨h1, h2⟩ := Bool.and_eq_true_iff.1 h
    cases j with
    | zero =>
      simp at hj
      subst hj
      have := List.all_eq_true.1 h1 e he
      rw [hb] at this
      exact Nat.le_of_ble_eq_true this
    | succ j =>
      have := backOk_spec h2 j o' e (by simpa using hj) he hb
      omega
def bits (l : List Sp) (d : Nat) : Nat := l.foldl (fun (d : Nat) (x : Sp) => Nat.lor d (2 ^ x.ix)) d
def sinceA (l : List Sp) (d : Nat) : Nat := l.foldl (fun (d : Nat) (x : Sp) => cond (isActs x.kd) (2 ^ x.ix) (Nat.lor d (2 ^ x.ix))) d
theorem bits_iff (k : Nat) : ∀ (l : List Sp) (d : Nat), Nat.testBit (bits l d) k = true ↔ Nat.testBit d k = true ∨ ∃ x ∈ l, x.ix = k
  | [], d => by simp [bits]
  | x :: l, d => by
    show Nat.testBit (bits l (Nat.lor d (2 ^ x.ix))) k = true ↔ _
    rw [bits_iff k l]
    have : Nat.testBit (Nat.lor d (2 ^ x.ix)) k = (Nat.testBit d k || decide (x.ix = k)) := by
      show Nat.testBit (d ||| 2 ^ x.ix) k = _
      rw [Nat.testBit_or, Nat.testBit_two_pow]
    rw [this]
    simp only [Bool.or_eq_true, decide_eq_true_eq, List.mem_cons, exists_eq_or_imp, or_assoc]
theorem since_bit (k : Nat) : ∀ (l : List Sp) (d : Nat), Nat.testBit d k = true → (∀ x ∈ l, x.kd ≠ .acts) → Nat.testBit (sinceA l d) k = true
  | [], d, h, _ => h
  | x :: l, d, h, hn => by
    have hx : isActs x.kd = false := by
      cases e : isActs x.kd with
      | false => rfl
      | true => exact absurd (isActs_iff.1 e) (hn x List.mem_cons_self)
    show Nat.testBit (sinceA l (cond (isActs x.kd) (2 ^ x.ix) (Nat.lor d (2 ^ x.ix)))) k = true
    refine since_bit k l _ ?_ fun y hy => hn y (List.mem_cons_of_mem _ hy)
    rw [hx]
    show Nat.testBit (d ||| 2 ^ x.ix) k = true
    rw [Nat.testBit_or, h]; rfl
theorem chk_at {ops : List Oper} {ms : List Nat} {n : Nat} : ∀ (l1 : List Sp) {l2 : List Sp} {d e : Nat}, chk ops ms n (l1 ++ l2) d e = true → chk ops ms n l2 (bits l1 d) (sinceA l1 e) = true
  | [], _, _, _, h => h
  | .mk k i o m :: l1, l2, d, e, h => by
    have h' := (Bool.and_eq_true_iff.1 (show (_ && chk ops ms n (l1 ++ l2) (Nat.lor d (2 ^ i)) (cond (isActs k) (2 ^ i) (Nat.lor e (2 ^ i)))) = true from h)).2
    exact chk_at l1 h'
/-- What is known of a plan. -/
structure PlanOk (P : Program) (A : Array Oper) (ms : List Nat) (l : List Sp) : Prop where
  op : ∀ (m : Nat) (x : Sp), l[m]? = some x → A[x.ix]? = some x.op ∧ x.kd = kindOf P x.op.op ∧ x.ms = ms.getD x.ix 0
  inj : ∀ (m m' : Nat) (x x' : Sp), l[m]? = some x → l[m']? = some x' → x.ix = x'.ix → m = m'
  all : ∀ i, i < A.size → ∃ (m : Nat) (x : Sp), l[m]? = some x ∧ x.ix = i
  since : ∀ (m m' : Nat) (x x' : Sp), l[m]? = some x → x.kd = .acts → m' < m → l[m']? = some x' → (∀ (m2 : Nat) (x2 : Sp), m' < m2 → m2 < m → l[m2]? = some x2 → x2.kd ≠ .acts) → Nat.testBit x.ms x'.ix = true
  look : ∀ (m m' : Nat) (x x' : Sp) (t : Tmp), l[m]? = some x → l[m']? = some x' → t ∈ looks A.toList x.op → x'.op.dst = some t → (m' < m → Nat.testBit x.ms x'.ix = true) ∧ (m < m' → Nat.testBit x'.ms x.ix = true)
  dst : ∀ (i i' : Nat) (o o' : Oper) (t : Tmp), A[i]? = some o → A[i']? = some o' → o.dst = some t → o'.dst = some t → i = i'
  back : ∀ (i : Nat) (o : Oper) (e : Edge), A[i]? = some o → e ∈ o.after.toList → Region.binds .any e = true → e.on < i
  anc : ∀ (i k : Nat) (o : Oper), A[i]? = some o → Nat.testBit (ms.getD i 0) k = true → ∃ e ∈ o.after.toList, Region.binds .any e = true ∧ (k = e.on ∨ Nat.testBit (ms.getD e.on 0) k = true)
theorem split_at {α : Type} {l : List α} {m : Nat} {x : α} (h : l[m]? = some x) : ∃ r, l = l.take m ++ x :: r ∧ ∀ j, r[j]? = l[m + 1 + j]? := by
  have hm := getElem?_lt h
  refine ⟨l.drop (m + 1), ?_, fun j => by rw [List.getElem?_drop]⟩
  have e : x = l[m] := by rw [List.getElem?_eq_getElem hm] at h; exact (Option.some.inj h).symm
  rw [e, List.getElem_cons_drop, List.take_append_drop]
theorem planOf_ok {P : Program} {A : Array Oper} {l : List Sp} (h : planOf P A.toList = some l) : PlanOk P A (masks A.toList []) l := by
  unfold planOf planWith at h
  split at h
  case h_2 => cases h
  rename_i l' hr
  cases hc : (dstOk A.toList A.toList 0 && backOk A.toList 0 && chk A.toList (masks A.toList []) A.toList.length l' 0 0) with
  | false => rw [hc] at h; cases h
  | true =>
  rw [hc] at h
  have e0 : l' = l := by simpa using h
  subst e0
  obtain ⟨hc1, hc3⟩ := Bool.and_eq_true_iff.1 hc
  obtain ⟨hc1, hc2⟩ := Bool.and_eq_true_iff.1 hc1
  have opAt : ∀ (m : Nat) (x : Sp), l'[m]? = some x → A[x.ix]? = some x.op ∧ x.kd = kindOf P x.op.op ∧ x.ms = (masks A.toList []).getD x.ix 0 := by
    intro m x hx
    have := resolve_spec hr x (List.mem_of_getElem? hx)
    rw [Array.getElem?_toList] at this
    exact this
  -- what is told at each place
  have told : ∀ (m : Nat) (x : Sp), l'[m]? = some x → Nat.testBit (bits (l'.take m) 0) x.ix = false ∧ (x.kd = .acts → Nat.land (sinceA (l'.take m) 0) x.ms = sinceA (l'.take m) 0) ∧
      ∀ t ∈ looks A.toList x.op, lookOk A.toList (masks A.toList []) x.ix x.ms (bits (l'.take m) 0) t = true := by
    intro m x hx
    obtain ⟨r, e, _⟩ := split_at hx
    rw [e] at hc3
    have hq := chk_at _ hc3
    obtain ⟨k, i, o, mm⟩ := x
    obtain ⟨hq, _⟩ := Bool.and_eq_true_iff.1 (show (_ && chk A.toList (masks A.toList []) A.toList.length r _ _) = true from hq)
    obtain ⟨hq, q3⟩ := Bool.and_eq_true_iff.1 hq
    obtain ⟨q1, q2⟩ := Bool.and_eq_true_iff.1 hq
    refine ⟨by simpa [Sp.ix] using q1, fun hk => ?_, fun t ht => List.all_eq_true.1 q3 t ht⟩
    have hk' : isActs k = true := isActs_iff.2 hk
    rw [hk'] at q2
    have q4 : Nat.beq (Nat.land (sinceA (l'.take m) 0) mm) (sinceA (l'.take m) 0) = true := by simpa using q2
    exact Nat.eq_of_beq_eq_true q4
  have mem_take : ∀ {m m' : Nat} {x' : Sp}, m' < m → l'[m']? = some x' → x' ∈ l'.take m := by
    intro m m' x' hlt hx'
    exact List.mem_of_getElem? (i := m') (by rw [List.getElem?_take, if_pos hlt]; exact hx')
  have inj : ∀ (m m' : Nat) (x x' : Sp), l'[m]? = some x → l'[m']? = some x' → x.ix = x'.ix → ¬ m' < m := by
    intro m m' x x' hx hx' he hlt
    have h1 := (told m x hx).1
    have h2 : Nat.testBit (bits (l'.take m) 0) x.ix = true := (bits_iff _ _ _).2 (.inr ⟨x', mem_take hlt hx', he.symm⟩)
    rw [h1] at h2; cases h2
  have dstAt' : ∀ (i : Nat) (o : Oper) (t : Tmp), A[i]? = some o → o.dst = some t → kOf t A.toList 0 = some i := by
    intro i o t hi ht
    have := dstOk_spec hc1 i o t (by rw [Array.getElem?_toList]; exact hi) ht
    rwa [Nat.zero_add] at this
  refine ⟨opAt, fun m m' x x' hx hx' he => ?_, fun i hi => ?_, fun m m' x x' hx hk hlt hx' hno => ?_, fun m m' x x' t hx hx' ht hd => ?_, fun i i' o o' t hi hi' ht ht' => ?_, fun i o e hi he hb => ?_, fun i k o hi hb => ?_⟩
  · have h1 := inj m m' x x' hx hx' he
    have h2 := inj m' m x' x hx' hx he.symm
    omega
  · have hq := chk_at l' (l2 := []) (by rw [List.append_nil]; exact hc3)
    have hq' : ((List.range A.toList.length).all fun i => Nat.testBit (bits l' 0) i) = true := hq
    have := List.all_eq_true.1 hq' i (by rw [List.mem_range, Array.length_toList]; exact hi)
    rcases (bits_iff _ _ _).1 this with h1 | ⟨x, h1, h2⟩
    · simp at h1
    · obtain ⟨m, hm⟩ := List.getElem?_of_mem h1
      exact ⟨m, x, hm, h2⟩
  · have h1 := (told m x hx).2.1 hk
    have h2 : Nat.testBit (sinceA (l'.take m) 0) x'.ix = true := by
      obtain ⟨r, e, hr2⟩ := split_at (show (l'.take m)[m']? = some x' by rw [List.getElem?_take, if_pos hlt]; exact hx')
      rw [e]
      show Nat.testBit (List.foldl _ _ _) _ = true
      rw [List.foldl_append]
      show Nat.testBit (sinceA r (cond (isActs x'.kd) (2 ^ x'.ix) (Nat.lor _ (2 ^ x'.ix)))) x'.ix = true
      refine since_bit _ r _ ?_ fun y hy => ?_
      · cases isActs x'.kd with
        | true => show Nat.testBit (2 ^ x'.ix) x'.ix = true; rw [Nat.testBit_two_pow]; simp
        | false =>
          show Nat.testBit (_ ||| 2 ^ x'.ix) x'.ix = true
          rw [Nat.testBit_or, Nat.testBit_two_pow]; simp
      · obtain ⟨j, hj⟩ := List.getElem?_of_mem hy
        rw [hr2 j, List.getElem?_take] at hj
        split at hj
        · rename_i hj2
          exact hno (m' + 1 + j) y (by omega) hj2 hj
        · cases hj
    have h3 : Nat.testBit (sinceA (l'.take m) 0 &&& x.ms) x'.ix = true := by
      rw [show sinceA (l'.take m) 0 &&& x.ms = sinceA (l'.take m) 0 from h1]; exact h2
    rw [Nat.testBit_and, h2] at h3
    simpa using h3
  · have hk := dstAt' x'.ix x'.op t (opAt m' x' hx').1 hd
    have h1 := (told m x hx).2.2 t ht
    unfold lookOk at h1
    rw [hk] at h1
    simp only at h1
    refine ⟨fun hlt => ?_, fun hlt => ?_⟩
    · have h2 : Nat.testBit (bits (l'.take m) 0) x'.ix = true := (bits_iff _ _ _).2 (.inr ⟨x', mem_take hlt hx', rfl⟩)
      rw [h2] at h1
      exact h1
    · have h2 : Nat.testBit (bits (l'.take m) 0) x'.ix = false := by
        cases e : Nat.testBit (bits (l'.take m) 0) x'.ix with
        | false => rfl
        | true =>
          rcases (bits_iff _ _ _).1 e with h3 | ⟨y, h3, h4⟩
          · simp at h3
          · obtain ⟨j, hj⟩ := List.getElem?_of_mem h3
            rw [List.getElem?_take] at hj
            split at hj
            · exact absurd (show j < m' by omega) (inj m' j x' y hx' hj h4.symm)
            · cases hj
      rw [h2] at h1
      rcases Bool.or_eq_true_iff.1 h1 with h3 | h3
      · exact absurd hlt (inj m' m x' x hx' hx (Nat.eq_of_beq_eq_true h3))
      · rw [(opAt m' x' hx').2.2]; exact h3
  · have h1 := dstAt' i o t hi ht
    have h2 := dstAt' i' o' t hi' ht'
    rw [h1] at h2
    exact Option.some.inj h2
  · have := backOk_spec hc2 i o e (by rw [Array.getElem?_toList]; exact hi) he hb
    omega
  · have := masks_bit A.toList [] i o k (by rw [Array.getElem?_toList]; exact hi) (by simpa using hb)
    exact this
end Go.Ev
