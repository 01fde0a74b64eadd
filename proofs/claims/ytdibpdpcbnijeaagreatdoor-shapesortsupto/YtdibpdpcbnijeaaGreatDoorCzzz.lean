import Derived.Test.YtdibpdpcbnijeaaGreatDoorCyzz
/-
  slices.stableCmpFunc, slices.SortStableFunc over entries.
-/
namespace Go.Proofs.YtdibpdpcbnijeaaGreatDoor
open Go Go.Ev Go.Sy
set_option maxRecDepth 100000
variable {s s0 : St} {b γ c : Nat}
theorem mul_step {t τ K : Nat} (h : t < τ) : t * K + K ≤ τ * K := by
  have := Nat.mul_le_mul_right K (show t + 1 ≤ τ from h)
  rwa [Nat.succ_mul] at this
theorem seg_far {l : List El} {lo hi : Nat} (h : l.length ≤ lo) : Seg eky l lo hi := by
  unfold Seg; rw [List.drop_eq_nil_of_le h, List.take_nil]; exact .nil
set_option maxHeartbeats 1600000 in
theorem stable_ok {l : List El} {N : Nat} (h : Dt s0 s b l γ) (hN : l.length = N) (hL : N < 2 ^ 58) :
    Cl B (.call 32 [.slice (some ⟨b, 0, none⟩) N c, nI N, byk]) s fun _ s' => ∃ l', Dt s0 s' b l' γ ∧ Sta eky l l' ∧ Srt eky l' ∧ l'.length = N := by
  refine Cl.enter Tryz.f32 fn32 rfl rfl rfl ?_
  refine run1 ?_
  refine W.loop (α := Nat × Nat × St × List El × Nat) (fun p => [(0, .slice (some ⟨b, 0, none⟩) N c), (1, nI N), (2, byk), (6, nI 20), (7, nI p.1), (8, nI p.2.1)]) (fun _ => []) (fun p => p.2.2.1)
    (fun p => p.2.1 = p.1 + 20 ∧ p.1 ≤ N ∧ p.1 = p.2.2.2.2 * 20 ∧ p.2.2.2.1.length = N ∧ Dt s0 p.2.2.1 b p.2.2.2.1 γ ∧ Sta eky l p.2.2.2.1 ∧ ∀ t, t < p.2.2.2.2 → Seg eky p.2.2.2.1 (t * 20) (t * 20 + 20))
    (fun p => N + 20 - p.1) (0, 20, s, l, 0) ⟨rfl, Nat.zero_le _, rfl, hN, h, .refl, fun t ht => by have : t < 0 := ht; omega⟩ (.cons rfl (.cons rfl (.cons rfl (.cons rfl (.cons rfl (.cons rfl .nil)))))) rfl rfl (by show N + 20 - 0 < _; omega) ?_
  rintro ⟨a, e, s1, l1, τ⟩ ⟨k0, k1, k2, k3, k4, k5, k6⟩
  dsimp only at k0 k1 k2 k3 k4 k5 k6 ⊢
  by_cases he : e ≤ N
  · refine run1 ?_
    have sp := split3 (l := l1) (a := a) (b := e) (by omega) (by omega)
    obtain ⟨p1, p2⟩ := len3 (l := l1) (a := a) (b := e) (by omega) (by omega)
    have p3 : (l1.drop e).length = N - e := by rw [List.length_drop]; omega
    generalize l1.take a = P at sp p1
    generalize (l1.drop a).take (e - a) = M at sp p2
    generalize l1.drop e = R at sp p3
    subst sp
    refine Wo.call rfl (Xc.call ok47 rfl) rfl ((insort_ok (P := P) (M := M) (R := R) (a := a) (e := e) (N := N) (by rw [← List.append_assoc]; exact k4) p1 (by omega) (by omega) (by omega)).mono ?_)
    rintro v s2 ⟨M', D2, a1, a2, a3⟩
    refine run1 ?_
    rw [← List.append_assoc] at D2
    refine rnd.n (e, e + 20, s2, P ++ M' ++ R, τ + 1) ⟨rfl, he, by show e = (τ + 1) * 20; omega, by show (P ++ M' ++ R).length = N; rw [List.length_append, List.length_append] at *; omega, D2, k5.trans (Sta.mid a1), fun t ht => ?_⟩ (by show N + 20 - e < N + 20 - a; omega) (.cons rfl (.cons rfl (.cons rfl (.cons rfl (.cons rfl (.cons rfl .nil)))))) rfl rfl
    by_cases ht' : t < τ
    · exact (k6 t ht').ahead (by omega)
    · have : t = τ := by have := ht; dsimp only at this; omega
      subst this
      exact Seg.here (by omega) (by omega) a2
  · refine run1 ?_
    have sp := split3 (l := l1) (a := a) (b := N) (by omega) (by omega)
    obtain ⟨p1, p2⟩ := len3 (l := l1) (a := a) (b := N) (by omega) (by omega)
    have p3 : (l1.drop N).length = 0 := by rw [List.length_drop]; omega
    generalize l1.take a = P at sp p1
    generalize (l1.drop a).take (N - a) = M at sp p2
    generalize l1.drop N = R at sp p3
    subst sp
    refine Wo.call rfl (Xc.call ok47 rfl) rfl ((insort_ok (P := P) (M := M) (R := R) (a := a) (e := N) (N := N) (by rw [← List.append_assoc]; exact k4) p1 (by omega) (by omega) (by omega)).mono ?_)
    rintro v s2 ⟨M', D2, a1, a2, a3⟩
    rw [← List.append_assoc] at D2
    have len2 : (P ++ M' ++ R).length = N := by rw [List.length_append, List.length_append] at *; omega
    have sb : ∀ t, Seg eky (P ++ M' ++ R) (t * 20) (t * 20 + 20) := fun t => by
      by_cases ht' : t < τ
      · exact (k6 t ht').ahead (by omega)
      · by_cases ht2 : t = τ
        · subst ht2
          exact (Seg.here (a := t * 20) (b := N) (by omega) (by omega) a2).out (by omega)
        · exact seg_far (by omega)
    refine run1 ?_
    refine W.loop (α := Nat × St × List El) (fun p => [(0, .slice (some ⟨b, 0, none⟩) N c), (1, nI N), (2, byk), (6, nI p.1)]) (fun _ => []) (fun p => p.2.1)
      (fun p => 0 < p.1 ∧ p.1 ≤ 2 * N + 20 ∧ p.2.2.length = N ∧ Dt s0 p.2.1 b p.2.2 γ ∧ Sta eky l p.2.2 ∧ ∀ t, Seg eky p.2.2 (t * p.1) (t * p.1 + p.1))
      (fun p => N - p.1) (20, s2, P ++ M' ++ R) ⟨by show 0 < 20; omega, by show 20 ≤ 2 * N + 20; omega, len2, D2, k5.trans (Sta.mid a1), sb⟩ (.cons rfl (.cons rfl (.cons rfl (.cons rfl .nil)))) rfl rfl (by show N - 20 < _; omega) ?_
    clear sb a1 a2 a3 len2 D2 k6 k5 k4 k3 p1 p2 p3 k2
    rintro ⟨k, s3, l3⟩ ⟨j0, j1, j2, j3, j4, j5⟩
    dsimp only at j0 j1 j2 j3 j4 j5 ⊢
    by_cases hk : k < N
    · refine run1 ?_
      refine W.loop (α := Nat × Nat × St × List El × Nat) (fun p => [(0, .slice (some ⟨b, 0, none⟩) N c), (1, nI N), (2, byk), (6, nI k), (7, nI p.1), (8, nI p.2.1)]) (fun _ => []) (fun p => p.2.2.1)
        (fun p => p.2.1 = p.1 + 2 * k ∧ p.1 ≤ N ∧ p.1 = p.2.2.2.2 * (k * 2) ∧ p.2.2.2.1.length = N ∧ Dt s0 p.2.2.1 b p.2.2.2.1 γ ∧ Sta eky l p.2.2.2.1 ∧ (∀ t, t < p.2.2.2.2 → Seg eky p.2.2.2.1 (t * (k * 2)) (t * (k * 2) + k * 2)) ∧ ∀ t, p.1 ≤ t * k → Seg eky p.2.2.2.1 (t * k) (t * k + k))
        (fun p => N - p.1) (0, 2 * k, s3, l3, 0) ⟨(Nat.zero_add _).symm, Nat.zero_le _, (Nat.zero_mul _).symm, j2, j3, j4, fun t ht => by have : t < 0 := ht; omega, fun t _ => j5 t⟩ (.cons rfl (.cons rfl (.cons rfl (.cons rfl (.cons rfl (.cons rfl .nil)))))) rfl rfl (by show N - 0 < _; omega) ?_
      clear j5 j4 j3 j2
      rintro ⟨a', e', s4, l4, τ'⟩ ⟨m0, m1, m2, m3, m4, m5, m6, m7⟩
      dsimp only at m0 m1 m2 m3 m4 m5 m6 m7 ⊢
      have hak : a' = (τ' * 2) * k := by rw [m2, Nat.mul_comm k 2, Nat.mul_assoc]
      have segU : Seg eky l4 a' (a' + k) := by have := m7 (τ' * 2) (Nat.le_of_eq hak); rwa [← hak] at this
      have hak1 : a' + k = (τ' * 2 + 1) * k := by rw [Nat.succ_mul, ← hak]
      by_cases he' : e' ≤ N
      · refine run1 ?_
        have segV : Seg eky l4 (a' + k) (a' + k + k) := by have := m7 (τ' * 2 + 1) (by omega); rwa [← hak1] at this
        unfold Seg at segU segV
        have sp := split3 (l := l4) (a := a') (b := a' + k) (by omega) (by omega)
        have sp2 := split3 (l := l4.drop (a' + k)) (a := 0) (b := k) (by omega) (by rw [List.length_drop]; omega)
        obtain ⟨p1, p2⟩ := len3 (l := l4) (a := a') (b := a' + k) (by omega) (by omega)
        have p3 : (((l4.drop (a' + k)).drop 0).take (k - 0)).length = k := by rw [List.length_take, List.length_drop, List.length_drop]; omega
        rw [List.drop_zero, Nat.sub_zero, List.take_zero, List.nil_append] at sp2
        rw [List.drop_zero, Nat.sub_zero] at p3
        rw [sp2] at sp
        rw [show a' + k + k - (a' + k) = k by omega] at segV
        have p4 : ((l4.drop (a' + k)).drop k).length = N - e' := by rw [List.length_drop, List.length_drop]; omega
        generalize l4.take a' = P at sp p1
        generalize (l4.drop a').take (a' + k - a') = U at sp p2 segU
        generalize (l4.drop (a' + k)).take k = V at sp p3 segV
        generalize (l4.drop (a' + k)).drop k = R at sp p4
        clear sp2
        have sp' : l4 = P ++ (U ++ V) ++ R := by rw [sp]; simp
        clear sp
        subst sp'
        refine Wo.call rfl (Xc.call ok48 rfl) rfl ((symm_ok (c := c) (U.length + V.length) (P := P) (U := U) (V := V) (R := R) (a := a') (m := a' + k) (e := e') (N := N) (Nat.le_refl _) (by simpa using m4) p1 (by omega) (by omega) (by omega) (by omega) (by omega) (by omega) segU segV).mono ?_)
        rintro v s5 ⟨M', D2, a1, a2, a3⟩
        rw [← List.append_assoc] at D2
        have lU : (U ++ V).length = M'.length := by rw [List.length_append]; omega
        refine run1 ?_
        refine rnd.n (e', e' + 2 * k, s5, P ++ M' ++ R, τ' + 1) ⟨rfl, he', by show e' = (τ' + 1) * (k * 2); rw [Nat.succ_mul, ← m2]; omega, by show (P ++ M' ++ R).length = N; rw [List.length_append, List.length_append] at *; omega, D2, m5.trans (Sta.mid a1), fun t ht => ?_, fun t ht => ?_⟩ (by show N - e' < N - a'; omega) (.cons rfl (.cons rfl (.cons rfl (.cons rfl (.cons rfl (.cons rfl .nil)))))) rfl rfl
        · by_cases ht' : t < τ'
          · exact (m6 t ht').ahead (by have := mul_step (K := k * 2) ht'; omega)
          · have : t = τ' := by have := ht; dsimp only at this; omega
            subst this
            exact Seg.here (by omega) (by omega) a2
        · dsimp only at ht
          exact (m7 t (by omega)).behind lU (by rw [List.length_append]; omega)
      · refine run1 ?_
        by_cases hm : a' + k < N
        · refine run1 ?_
          have segV : Seg eky l4 (a' + k) (a' + k + k) := by have := m7 (τ' * 2 + 1) (by omega); rwa [← hak1] at this
          unfold Seg at segU segV
          have sp := split3 (l := l4) (a := a') (b := a' + k) (by omega) (by omega)
          obtain ⟨p1, p2⟩ := len3 (l := l4) (a := a') (b := a' + k) (by omega) (by omega)
          have p3 : (l4.drop (a' + k)).length = N - (a' + k) := by rw [List.length_drop]; omega
          rw [List.take_of_length_le (by omega)] at segV
          generalize l4.take a' = P at sp p1
          generalize (l4.drop a').take (a' + k - a') = U at sp p2 segU
          generalize l4.drop (a' + k) = V at sp p3 segV
          have sp' : l4 = P ++ (U ++ V) ++ [] := by rw [sp]; simp
          clear sp
          subst sp'
          refine Wo.call rfl (Xc.call ok48 rfl) rfl ((symm_ok (c := c) (U.length + V.length) (P := P) (U := U) (V := V) (R := []) (a := a') (m := a' + k) (e := N) (N := N) (Nat.le_refl _) (by simpa using m4) p1 (by omega) (by omega) rfl (by omega) (by omega) (by omega) segU segV).mono ?_)
          rintro v s5 ⟨M', D2, a1, a2, a3⟩
          rw [← List.append_assoc] at D2
          refine run1 ?_
          have len5 : (P ++ M' ++ []).length = N := by simp only [List.length_append, List.length_nil] at *; omega
          refine rnd.n (k * 2, s5, P ++ M' ++ []) ⟨by show 0 < k * 2; omega, by show k * 2 ≤ 2 * N + 20; omega, len5, D2, m5.trans (Sta.mid a1), fun t => ?_⟩ (by show N - k * 2 < N - k; omega) (.cons rfl (.cons rfl (.cons rfl (.cons rfl .nil)))) rfl rfl
          dsimp only
          by_cases ht' : t < τ'
          · exact (m6 t ht').ahead (by have := mul_step (K := k * 2) ht'; omega)
          · by_cases ht2 : t = τ'
            · subst ht2
              exact (Seg.here (a := t * (k * 2)) (b := N) (by omega) (by omega) a2).out (by omega)
            · have := mul_step (K := k * 2) (show τ' < t by omega)
              exact seg_far (by omega)
        · refine run1 ?_
          refine rnd.n (k * 2, s4, l4) ⟨by show 0 < k * 2; omega, by show k * 2 ≤ 2 * N + 20; omega, m3, m4, m5, fun t => ?_⟩ (by show N - k * 2 < N - k; omega) (.cons rfl (.cons rfl (.cons rfl (.cons rfl .nil)))) rfl rfl
          dsimp only
          by_cases ht' : t < τ'
          · exact m6 t ht'
          · by_cases ht2 : t = τ'
            · subst ht2
              rw [← m2]; exact segU.out (by omega)
            · have := mul_step (K := k * 2) (show τ' < t by omega)
              exact seg_far (by omega)
    · refine run1 ?_
      have := j5 0
      unfold Seg at this
      rw [Nat.zero_mul, List.drop_zero, List.take_of_length_le (by omega)] at this
      exact Lv.nrm rfl ⟨l3, j3, j4, this, j2⟩
theorem insort_nil : Cl B (.call 47 [.slice none 0 c, nI 0, nI 0, byk]) s fun _ s' => s' = s := by
  refine Cl.enter Tryz.f47 fn47 rfl rfl rfl ?_
  refine run1 ?_
  refine W.loop (α := Unit) (fun _ => [(2, nI 0), (8, nI (0 + 1))]) (fun _ => []) (fun _ => s) (fun _ => True) (fun _ => 0) () trivial (.cons rfl (.cons rfl .nil)) rfl rfl (by decide) ?_
  intro _ _
  have hn : ¬ (0 + 1 < 0) := by omega
  refine run1 ?_
  exact Lv.nrm rfl rfl
theorem stable_nil : Cl B (.call 32 [.slice none 0 c, nI 0, byk]) s fun _ s' => s' = s := by
  refine Cl.enter Tryz.f32 fn32 rfl rfl rfl ?_
  refine run1 ?_
  have h1 : ¬ (20 ≤ 0) := by omega
  have h2 : ¬ (20 < 0) := by omega
  refine W.loop (α := Unit) (fun _ => [(0, .slice none 0 c), (1, nI 0), (2, byk), (6, nI 20), (7, nI 0), (8, nI 20)]) (fun _ => []) (fun _ => s) (fun _ => True) (fun _ => 0) () trivial (.cons rfl (.cons rfl (.cons rfl (.cons rfl (.cons rfl (.cons rfl .nil)))))) rfl rfl (by decide) ?_
  intro _ _
  refine run1 ?_
  refine Wo.call rfl (Xc.call ok47 rfl) rfl (insort_nil.mono ?_)
  rintro v s' rfl
  refine run1 ?_
  refine W.loop (α := Unit) (fun _ => [(1, nI 0), (6, nI 20)]) (fun _ => []) (fun _ => s') (fun _ => True) (fun _ => 0) () trivial (.cons rfl (.cons rfl .nil)) rfl rfl (by decide) ?_
  intro _ _
  refine run1 ?_
  exact Lv.nrm rfl rfl
theorem sorts_ok {l : List El} {N : Nat} (h : Dt s0 s b l γ) (hN : l.length = N) (hL : N < 2 ^ 58) :
    Cl B (.call 17 [.slice (some ⟨b, 0, none⟩) N c, byk]) s fun _ s' => ∃ l', Dt s0 s' b l' γ ∧ Sta eky l l' ∧ Srt eky l' ∧ l'.length = N := by
  refine Cl.enter Tryz.f17 fn17 rfl rfl rfl ?_
  refine run1 ?_
  refine Wo.call rfl (Xc.call ok32 rfl) rfl ((stable_ok h hN hL).mono ?_)
  intro v s' k
  refine run1 ?_
  exact Lv.nrm rfl k
theorem sorts_nil : Cl B (.call 17 [.slice none 0 c, byk]) s fun _ s' => s' = s := by
  refine Cl.enter Tryz.f17 fn17 rfl rfl rfl ?_
  refine run1 ?_
  refine Wo.call rfl (Xc.call ok32 rfl) rfl (stable_nil.mono ?_)
  intro v s' k
  refine run1 ?_
  exact Lv.nrm rfl k
end Go.Proofs.YtdibpdpcbnijeaaGreatDoor
