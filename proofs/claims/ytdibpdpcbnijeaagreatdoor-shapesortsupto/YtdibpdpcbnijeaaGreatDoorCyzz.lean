import Derived.Test.YtdibpdpcbnijeaaGreatDoorCqzz
import Derived.Test.YtdibpdpcbnijeaaGreatDoorCkzz
/-
  slices.symMergeCmpFunc over entries.
-/
namespace Go.Proofs.YtdibpdpcbnijeaaGreatDoor
open Go Go.Ev Go.Sy
set_option maxRecDepth 100000
variable {s0 : St} {b γ c : Nat}
set_option maxHeartbeats 2000000 in
theorem symm_ok : ∀ (k : Nat) {s : St} {P U V R : List El} {a m e N : Nat}, U.length + V.length ≤ k → Dt s0 s b (P ++ (U ++ (V ++ R))) γ → P.length = a → a + U.length = m → m + V.length = e → e + R.length = N → N < 2 ^ 60 → 0 < U.length → 0 < V.length → Srt eky U → Srt eky V →
    Cl B (.call 48 [.slice (some ⟨b, 0, none⟩) N c, nI a, nI m, nI e, byk]) s fun _ s' => ∃ M', Dt s0 s' b (P ++ (M' ++ R)) γ ∧ Sta eky (U ++ V) M' ∧ Srt eky M' ∧ M'.length = U.length + V.length := by
  intro k
  induction k with
  | zero => intro s P U V R a m e N hk; omega
  | succ k ih =>
  intro s P U V R a m e N hk h hP hU hV hN hL hu hv oU oV
  refine Cl.enter Tryz.f48 fn48 rfl rfl rfl ?_
  have g1 : good (some (⟨b, 0, none⟩ : Addr)) := ⟨_, _, rfl⟩
  have q1 : a ≤ m := by omega
  have q2 : m ≤ e := by omega
  have q3 : e < 2 ^ 60 := by omega
  by_cases hm1 : m - a = 1
  · obtain ⟨x, rfl⟩ : ∃ x, U = [x] := by
      cases U with
      | nil => simp at hu
      | cons x U => cases U with
        | nil => exact ⟨x, rfl⟩
        | cons y U => simp at hU; omega
    have hm : m = a + 1 := by omega
    refine run1 ?_
    refine W.loop (α := Nat × Nat × St) (fun p => [(0, .slice (some ⟨b, 0, none⟩) N c), (1, nI a), (2, nI m), (3, nI e), (4, byk), (10, nI p.1), (11, nI p.2.1)]) (fun _ => []) (fun p => p.2.2)
      (fun p => m ≤ p.1 ∧ p.1 ≤ p.2.1 ∧ p.2.1 ≤ e ∧ Dt s0 p.2.2 b (P ++ ([x] ++ (V ++ R))) γ ∧ (p.1 = m ∨ ∃ z, V[p.1 - 1 - m]? = some z ∧ m ≤ p.1 - 1 ∧ Lt (eky z) (eky x)) ∧ (p.2.1 = e ∨ ∃ z, V[p.2.1 - m]? = some z ∧ ¬ Lt (eky z) (eky x)))
      (fun p => p.2.1 - p.1) (m, e, s) ⟨Nat.le_refl _, q2, Nat.le_refl _, h, .inl rfl, .inl rfl⟩ (.cons rfl (.cons rfl (.cons rfl (.cons rfl (.cons rfl (.cons rfl (.cons rfl .nil))))))) rfl rfl (by show e - m < _; omega) ?_
    rintro ⟨i, j, s1⟩ ⟨k1, k2, k3, k4, k5, k6⟩
    dsimp only at k1 k2 k3 k4 k5 k6 ⊢
    by_cases hij : i < j
    · refine run1 ?_
      refine Wo.val rfl (Xv.cv rfl rfl rfl (half_ok (by omega))) rfl ?_
      have hb1 : i ≤ (i + j) / 2 := by omega
      have hb2 : (i + j) / 2 < j := by omega
      obtain ⟨t, ht⟩ : ∃ t, t = (i + j) / 2 := ⟨_, rfl⟩
      rw [← ht] at hb1 hb2 ⊢
      obtain ⟨z, hz⟩ := at_lt (l := V) (k := t - m) (by omega)
      have w2 : (P ++ ([x] ++ (V ++ R)))[t]? = some z := by rw [idx2 hP hU (by omega) (by omega)]; exact hz
      have w3 : (P ++ ([x] ++ (V ++ R)))[a]? = some x := by rw [idx1 hP (Nat.le_refl _) (by simp), Nat.sub_self]; rfl
      have d2 := k4.ldn w2
      have d3 := k4.ldn w3
      have hbt : t < N := by omega
      have hba : a < N := by omega
      refine run1 ?_
      refine W.dr [(0, .none, 0), (1, .none, 0), (2, .none, 0), (3, .none, 6), (4, .reads, 14), (5, .none, 0), (6, .none, 0), (7, .none, 96), (8, .reads, 224), (9, .acts, 511), (10, .none, 1023)] (by kernel_rfl) rfl ?_
      refine run1 ?_
      refine Wd.read rfl (Xv.ldN rfl rfl rfl d2) rfl (k4.eqv w2) ⟨Xv.ldN rfl rfl rfl d2, trivial⟩ ?_
      refine run1 ?_
      refine Wd.read rfl (Xv.ldN rfl rfl rfl d3) rfl (k4.eqv w3) ⟨Xv.ldN rfl rfl rfl d3, trivial⟩ ?_
      refine Wd.call rfl (Xc.callv rfl ok18 rfl) rfl ((bykey_el k4 w2 w3).mono ?_)
      rintro v s3 ⟨rfl, D3, nx3⟩
      refine ⟨nx3, ?_⟩
      by_cases hc : cmp z.2.1 x.2.1 < Int.ofNat 0
      · refine run1 ?_
        exact rnd.n (t + 1, j, s3) ⟨by show m ≤ t + 1; omega, by show t + 1 ≤ j; omega, k3, D3, .inr ⟨z, hz, by show m ≤ t + 1 - 1; omega, hc⟩, k6⟩ (by show j - (t + 1) < j - i; omega) (.cons rfl (.cons rfl (.cons rfl (.cons rfl (.cons rfl (.cons rfl (.cons rfl .nil))))))) rfl rfl
      · refine run1 ?_
        exact rnd.n (i, t, s3) ⟨k1, hb1, by show t ≤ e; omega, D3, k5, .inr ⟨z, hz, hc⟩⟩ (by show t - i < j - i; omega) (.cons rfl (.cons rfl (.cons rfl (.cons rfl (.cons rfl (.cons rfl (.cons rfl .nil))))))) rfl rfl
    · have hie : j = i := by omega
      subst hie
      have hd : ∀ y ∈ V.take (j - m), Lt (eky y) (eky x) := fun y hy => by
        rcases k5 with h1 | ⟨z, hz, hm2, hlt⟩
        · rw [h1, Nat.sub_self] at hy; simp at hy
        · have := srt_take oV hz y (by rw [show j - 1 - m + 1 = j - m by omega]; exact hy)
          exact Lt.lelt this hlt
      have hd2 : ∀ y ∈ V.drop (j - m), ¬ Lt (eky y) (eky x) := fun y hy => by
        rcases k6 with h1 | ⟨z, hz, hlt⟩
        · rw [h1, List.drop_eq_nil_of_le (by omega)] at hy; simp at hy
        · exact Lt.lele hlt (srt_drop oV hz y hy)
      have l1 : (V.take (j - m)).length = j - m := by rw [List.length_take]; omega
      refine run1 ?_
      refine W.loop (α := Nat × St) (fun p => [(0, .slice (some ⟨b, 0, none⟩) N c), (10, nI j), (13, nI p.1)]) (fun _ => []) (fun p => p.2)
        (fun p => a ≤ p.1 ∧ p.1 ≤ j - 1 ∧ Dt s0 p.2 b ((P ++ (V.take (j - m)).take (p.1 - a)) ++ x :: ((V.take (j - m)).drop (p.1 - a) ++ (V.drop (j - m) ++ R))) γ)
        (fun p => j - p.1) (a, s1) ⟨Nat.le_refl _, by show a ≤ j - 1; omega, by
          show Dt s0 s1 b ((P ++ (V.take (j - m)).take (a - a)) ++ x :: ((V.take (j - m)).drop (a - a) ++ (V.drop (j - m) ++ R))) γ
          rw [Nat.sub_self, List.take_zero, List.append_nil, List.drop_zero, ← List.append_assoc (V.take (j - m)), List.take_append_drop]; exact k4⟩ (.cons rfl (.cons rfl (.cons rfl .nil))) rfl rfl (by show j - a < _; omega) ?_
      rintro ⟨t, s2⟩ ⟨j1, j2, j3⟩
      dsimp only at j1 j2 j3 ⊢
      by_cases ht : t < j - 1
      · obtain ⟨y, hy⟩ := at_lt (l := V.take (j - m)) (k := t - a) (by omega)
        obtain ⟨e1, e2, e3⟩ := take_at hy
        have lt1 : ((V.take (j - m)).take (t - a)).length = t - a := by rw [List.length_take]; omega
        obtain ⟨w1, w2, w3⟩ := swap_at (P := P ++ (V.take (j - m)).take (t - a)) (M := []) (R := (V.take (j - m)).drop (t - a + 1) ++ (V.drop (j - m) ++ R)) (x := x) (y := y) (i := t) (j := t + 1) (by rw [List.length_append, lt1]; omega) (by simp)
        have e4 : ((P ++ (V.take (j - m)).take (t - a)) ++ x :: ((V.take (j - m)).drop (t - a) ++ (V.drop (j - m) ++ R))) = (P ++ (V.take (j - m)).take (t - a)) ++ x :: ([] ++ y :: ((V.take (j - m)).drop (t - a + 1) ++ (V.drop (j - m) ++ R))) := by rw [e3]; rfl
        have e5 : (P ++ (V.take (j - m)).take (t - a)) ++ y :: ([] ++ x :: ((V.take (j - m)).drop (t - a + 1) ++ (V.drop (j - m) ++ R))) = (P ++ (V.take (j - m)).take (t + 1 - a)) ++ x :: ((V.take (j - m)).drop (t + 1 - a) ++ (V.drop (j - m) ++ R)) := by
          rw [show t + 1 - a = t - a + 1 by omega, e2]; simp
        rw [e4] at j3
        rw [e5] at w1
        generalize hLL : (P ++ (V.take (j - m)).take (t - a)) ++ x :: ([] ++ y :: ((V.take (j - m)).drop (t - a + 1) ++ (V.drop (j - m) ++ R))) = L at j3 w1 w2 w3
        have hi1 : t < L.length := (List.getElem?_eq_some_iff.1 w2).1
        have hi2 : t + 1 < L.length := (List.getElem?_eq_some_iff.1 w3).1
        have hb1 : t < N := by omega
        have hb2 : t + 1 < N := by omega
        have d1 := j3.ldn w2
        have d2 := j3.ldn w3
        refine run1 ?_
        refine W.dr [(0, .none, 0), (1, .none, 0), (5, .none, 0), (6, .none, 0), (7, .none, 64), (8, .none, 224), (9, .reads, 480), (10, .none, 0), (11, .none, 0), (12, .none, 3072), (13, .reads, 7168), (14, .none, 16355), (15, .acts, 32739), (2, .none, 0), (3, .none, 0), (4, .none, 8), (16, .none, 65535), (17, .acts, 131071)] (by kernel_rfl) rfl ?_
        refine run1 ?_
        refine Wd.read rfl (Xv.ldN rfl rfl rfl d2) rfl (j3.eqv w3) ⟨Xv.ldN rfl rfl rfl d2, trivial⟩ ?_
        refine run1 ?_
        refine Wd.read rfl (Xv.ldN rfl rfl rfl d1) rfl (j3.eqv w2) ⟨Xv.ldN rfl rfl rfl d1, trivial⟩ ?_
        refine run1 ?_
        refine Wd.st rfl rfl rfl rfl rfl rfl rfl (j3.one w3) j3.rw (j3.len hi1) ?_
        intro s4 a1 a2 a3
        have D4 := j3.set hi1 a1 a3 (j3.bs w3)
        refine run1 ?_
        refine Wd.st rfl rfl rfl rfl rfl rfl rfl (j3.one w2) D4.rw (D4.len (by rw [List.length_set]; exact hi2)) ?_
        intro s5 a4 a5 a6
        have D5 := D4.set (by rw [List.length_set]; exact hi2) a4 a6 (j3.bs w2)
        rw [w1] at D5
        refine run1 ?_
        exact rnd.n (t + 1, s5) ⟨by show a ≤ t + 1; omega, by show t + 1 ≤ j - 1; omega, D5⟩ (by show j - (t + 1) < j - t; omega) (.cons rfl (.cons rfl (.cons rfl .nil))) rfl rfl
      · refine run1 ?_
        have hte : t - a = j - m := by omega
        rw [hte, List.take_of_length_le (by omega), List.drop_eq_nil_of_le (by omega), List.nil_append] at j3
        have eV : V = V.take (j - m) ++ V.drop (j - m) := (List.take_append_drop _ _).symm
        refine Lv.ret rfl ⟨V.take (j - m) ++ x :: V.drop (j - m), by simpa using j3, ?_, ?_, ?_⟩
        · have := (Sta.mid (P := []) (R := V.drop (j - m)) (Sta.swap (l := [x]) (m := V.take (j - m)) (f := eky) fun y hy z hz => by rw [List.mem_singleton] at hy; subst hy; exact (hd z hz).ne.symm))
          simpa using this
        · exact Srt.put (by rw [← eV]; exact oV) (fun y hy => (hd y hy).asymm) hd2
        · rw [List.length_append, List.length_cons, l1, List.length_drop]; simp; omega
  · by_cases hm2 : e - m = 1
    · obtain ⟨y, rfl⟩ : ∃ y, V = [y] := by
        cases V with
        | nil => simp at hv
        | cons x V => cases V with
          | nil => exact ⟨x, rfl⟩
          | cons y V => simp at hV; omega
      have he : e = m + 1 := by omega
      refine run1 ?_
      refine W.loop (α := Nat × Nat × St) (fun p => [(0, .slice (some ⟨b, 0, none⟩) N c), (1, nI a), (2, nI m), (3, nI e), (4, byk), (14, nI p.1), (15, nI p.2.1)]) (fun _ => []) (fun p => p.2.2)
        (fun p => a ≤ p.1 ∧ p.1 ≤ p.2.1 ∧ p.2.1 ≤ m ∧ Dt s0 p.2.2 b (P ++ (U ++ ([y] ++ R))) γ ∧ (p.1 = a ∨ ∃ z, U[p.1 - 1 - a]? = some z ∧ (a ≤ p.1 - 1 ∧ 0 < p.1) ∧ ¬ Lt (eky y) (eky z)) ∧ (p.2.1 = m ∨ ∃ z, U[p.2.1 - a]? = some z ∧ Lt (eky y) (eky z)))
        (fun p => p.2.1 - p.1) (a, m, s) ⟨Nat.le_refl _, q1, Nat.le_refl _, h, .inl rfl, .inl rfl⟩ (.cons rfl (.cons rfl (.cons rfl (.cons rfl (.cons rfl (.cons rfl (.cons rfl .nil))))))) rfl rfl (by show m - a < _; omega) ?_
      rintro ⟨i, j, s1⟩ ⟨k1, k2, k3, k4, k5, k6⟩
      dsimp only at k1 k2 k3 k4 k5 k6 ⊢
      by_cases hij : i < j
      · refine run1 ?_
        refine Wo.val rfl (Xv.cv rfl rfl rfl (half_ok (by omega))) rfl ?_
        have hb1 : i ≤ (i + j) / 2 := by omega
        have hb2 : (i + j) / 2 < j := by omega
        obtain ⟨t, ht⟩ : ∃ t, t = (i + j) / 2 := ⟨_, rfl⟩
        rw [← ht] at hb1 hb2 ⊢
        obtain ⟨z, hz⟩ := at_lt (l := U) (k := t - a) (by omega)
        have w2 : (P ++ (U ++ ([y] ++ R)))[t]? = some z := by rw [idx1 hP (by omega) (by omega)]; exact hz
        have w3 : (P ++ (U ++ ([y] ++ R)))[m]? = some y := by rw [idx2 hP hU (Nat.le_refl _) (by simp), Nat.sub_self]; rfl
        have d2 := k4.ldn w2
        have d3 := k4.ldn w3
        have hbt : t < N := by omega
        have hba : m < N := by omega
        refine run1 ?_
        refine W.dr [(0, .none, 0), (1, .none, 0), (2, .none, 0), (3, .none, 6), (4, .reads, 14), (5, .none, 0), (6, .none, 0), (7, .none, 96), (8, .reads, 224), (9, .acts, 511), (10, .none, 1023), (11, .none, 2047)] (by kernel_rfl) rfl ?_
        refine run1 ?_
        refine Wd.read rfl (Xv.ldN rfl rfl rfl d3) rfl (k4.eqv w3) ⟨Xv.ldN rfl rfl rfl d3, trivial⟩ ?_
        refine run1 ?_
        refine Wd.read rfl (Xv.ldN rfl rfl rfl d2) rfl (k4.eqv w2) ⟨Xv.ldN rfl rfl rfl d2, trivial⟩ ?_
        refine Wd.call rfl (Xc.callv rfl ok18 rfl) rfl ((bykey_el k4 w3 w2).mono ?_)
        rintro v s3 ⟨rfl, D3, nx3⟩
        refine ⟨nx3, ?_⟩
        by_cases hc : cmp y.2.1 z.2.1 < Int.ofNat 0
        · refine run1 ?_
          exact rnd.n (i, t, s3) ⟨k1, hb1, by show t ≤ m; omega, D3, k5, .inr ⟨z, hz, hc⟩⟩ (by show t - i < j - i; omega) (.cons rfl (.cons rfl (.cons rfl (.cons rfl (.cons rfl (.cons rfl (.cons rfl .nil))))))) rfl rfl
        · refine run1 ?_
          exact rnd.n (t + 1, j, s3) ⟨by show a ≤ t + 1; omega, by show t + 1 ≤ j; omega, k3, D3, .inr ⟨z, hz, ⟨by show a ≤ t + 1 - 1; omega, by show 0 < t + 1; omega⟩, hc⟩, k6⟩ (by show j - (t + 1) < j - i; omega) (.cons rfl (.cons rfl (.cons rfl (.cons rfl (.cons rfl (.cons rfl (.cons rfl .nil))))))) rfl rfl
      · have hie : j = i := by omega
        subst hie
        have hd : ∀ z ∈ U.take (j - a), ¬ Lt (eky y) (eky z) := fun z hz => by
          rcases k5 with h1 | ⟨x, hx, hm3, hlt⟩
          · rw [h1, Nat.sub_self] at hz; simp at hz
          · exact Lt.lele (srt_take oU hx z (by rw [show j - 1 - a + 1 = j - a by omega]; exact hz)) hlt
        have hd2 : ∀ z ∈ U.drop (j - a), Lt (eky y) (eky z) := fun z hz => by
          rcases k6 with h1 | ⟨x, hx, hlt⟩
          · rw [h1, List.drop_eq_nil_of_le (show U.length ≤ m - a by omega)] at hz; simp at hz
          · exact hlt.ltle (srt_drop oU hx z hz)
        have l1 : (U.take (j - a)).length = j - a := by rw [List.length_take]; omega
        have l2 : (U.drop (j - a)).length = m - j := by rw [List.length_drop]; omega
        have eU : U = U.take (j - a) ++ U.drop (j - a) := (List.take_append_drop _ _).symm
        refine run1 ?_
        refine W.loop (α := Nat × St) (fun p => [(0, .slice (some ⟨b, 0, none⟩) N c), (14, nI j), (17, nI p.1)]) (fun _ => []) (fun p => p.2)
          (fun p => j ≤ p.1 ∧ p.1 ≤ m ∧ Dt s0 p.2 b (((P ++ U.take (j - a)) ++ (U.drop (j - a)).take (p.1 - j)) ++ y :: ((U.drop (j - a)).drop (p.1 - j) ++ R)) γ)
          (fun p => p.1) (m, s1) ⟨k3, Nat.le_refl _, by
            show Dt s0 s1 b (((P ++ U.take (j - a)) ++ (U.drop (j - a)).take (m - j)) ++ y :: ((U.drop (j - a)).drop (m - j) ++ R)) γ
            rw [List.take_of_length_le (show (U.drop (j - a)).length ≤ m - j by omega), List.drop_eq_nil_of_le (show (U.drop (j - a)).length ≤ m - j by omega), List.append_assoc P, ← eU]; simpa using k4⟩ (.cons rfl (.cons rfl (.cons rfl .nil))) rfl rfl (by show m < _; omega) ?_
        rintro ⟨t, s2⟩ ⟨j1, j2, j3⟩
        dsimp only at j1 j2 j3 ⊢
        by_cases ht : j < t
        · obtain ⟨z, hz⟩ := at_lt (l := U.drop (j - a)) (k := t - 1 - j) (by omega)
          obtain ⟨e1, e2, e3⟩ := take_at hz
          have lt1 : ((U.drop (j - a)).take (t - 1 - j)).length = t - 1 - j := by rw [List.length_take]; omega
          obtain ⟨w1, w2, w3⟩ := swap_at' (P := (P ++ U.take (j - a)) ++ (U.drop (j - a)).take (t - 1 - j)) (R := (U.drop (j - a)).drop (t - j) ++ R) (x := z) (y := y) (i := t - 1) (j := t) (by rw [List.length_append, List.length_append, lt1, l1]; omega) (by omega)
          have e4 : (((P ++ U.take (j - a)) ++ (U.drop (j - a)).take (t - j)) ++ y :: ((U.drop (j - a)).drop (t - j) ++ R)) = ((P ++ U.take (j - a)) ++ (U.drop (j - a)).take (t - 1 - j)) ++ z :: y :: ((U.drop (j - a)).drop (t - j) ++ R) := by
            rw [show (U.drop (j - a)).take (t - j) = (U.drop (j - a)).take (t - 1 - j) ++ [z] by rw [← e2]; congr 1; omega]; simp
          have e5 : ((P ++ U.take (j - a)) ++ (U.drop (j - a)).take (t - 1 - j)) ++ y :: z :: ((U.drop (j - a)).drop (t - j) ++ R) = ((P ++ U.take (j - a)) ++ (U.drop (j - a)).take (t - 1 - j)) ++ y :: ((U.drop (j - a)).drop (t - 1 - j) ++ R) := by
            rw [e3, show t - 1 - j + 1 = t - j by omega]; rfl
          rw [e4] at j3
          rw [e5] at w1
          generalize hLL : ((P ++ U.take (j - a)) ++ (U.drop (j - a)).take (t - 1 - j)) ++ z :: y :: ((U.drop (j - a)).drop (t - j) ++ R) = L at j3 w1 w2 w3
          have hi1 : t - 1 < L.length := (List.getElem?_eq_some_iff.1 w2).1
          have hi2 : t < L.length := (List.getElem?_eq_some_iff.1 w3).1
          have hb1 : t < N := by omega
          have hb2 : t - 1 < N := by omega
          have d1 := j3.ldn w2
          have d2 := j3.ldn w3
          refine run1 ?_
          refine W.dr [(0, .none, 0), (1, .none, 0), (5, .none, 0), (6, .none, 0), (7, .none, 64), (8, .none, 224), (9, .reads, 480), (10, .none, 0), (11, .none, 0), (12, .none, 3072), (13, .reads, 7168), (14, .none, 16355), (15, .acts, 32739), (2, .none, 0), (3, .none, 0), (4, .none, 8), (16, .none, 65535), (17, .acts, 131071)] (by kernel_rfl) rfl ?_
          refine run1 ?_
          refine Wd.read rfl (Xv.ldN rfl rfl rfl d1) rfl (j3.eqv w2) ⟨Xv.ldN rfl rfl rfl d1, trivial⟩ ?_
          refine run1 ?_
          refine Wd.read rfl (Xv.ldN rfl rfl rfl d2) rfl (j3.eqv w3) ⟨Xv.ldN rfl rfl rfl d2, trivial⟩ ?_
          refine run1 ?_
          refine Wd.st rfl rfl rfl rfl rfl rfl rfl (j3.one w2) j3.rw (j3.len hi2) ?_
          intro s4 a1 a2 a3
          have D4 := j3.set hi2 a1 a3 (j3.bs w2)
          refine run1 ?_
          refine Wd.st rfl rfl rfl rfl rfl rfl rfl (j3.one w3) D4.rw (D4.len (by rw [List.length_set]; exact hi1)) ?_
          intro s5 a4 a5 a6
          have D5 := D4.set (by rw [List.length_set]; exact hi1) a4 a6 (j3.bs w3)
          rw [w1] at D5
          refine run1 ?_
          exact rnd.n (t - 1, s5) ⟨by show j ≤ t - 1; omega, by show t - 1 ≤ m; omega, D5⟩ (by show t - 1 < t; omega) (.cons rfl (.cons rfl (.cons rfl .nil))) rfl rfl
        · refine run1 ?_
          have hte : t - j = 0 := by omega
          rw [hte, List.take_zero, List.append_nil, List.drop_zero] at j3
          refine Lv.ret rfl ⟨U.take (j - a) ++ y :: U.drop (j - a), by simpa using j3, ?_, ?_, ?_⟩
          · have := (Sta.mid (P := U.take (j - a)) (R := []) (Sta.swap (l := U.drop (j - a)) (m := [y]) (f := eky) fun z hz x hx => by rw [List.mem_singleton] at hx; subst hx; exact (hd2 z hz).ne.symm))
            rw [List.append_nil, List.append_nil, ← List.append_assoc, ← eU] at this
            exact this
          · exact Srt.put (by rw [← eU]; exact oU) hd (fun z hz => (hd2 z hz).asymm)
          · rw [List.length_append, List.length_cons, l1, l2]; simp; omega
    · refine run1 ?_
      refine Wo.val rfl (Xv.cv rfl rfl rfl (half_ok (by omega))) rfl ?_
      obtain ⟨d, hd⟩ : ∃ d, d = (a + e) / 2 := ⟨_, rfl⟩
      have hd1 : a ≤ d := by omega
      have hd2 : d < e := by omega
      rw [← hd]
      refine run1 ?_
      refine W.meet (α := Nat × Nat) (fun p => [(0, .slice (some ⟨b, 0, none⟩) N c), (1, nI a), (2, nI m), (3, nI e), (4, byk), (18, nI d), (19, nI (d + m)), (20, nI p.1), (21, nI p.2)]) (fun _ => s)
        (fun p => (d < m ∧ p = (d + m - e, d)) ∨ (m ≤ d ∧ p = (a, m))) ?_ ?_
      · refine W.cond rfl (fun h => ?_) (fun h => ?_)
        · refine run1 ?_
          exact meet.n (d + m - e, d) (.inl ⟨h, rfl⟩) (.cons rfl (.cons rfl (.cons rfl (.cons rfl (.cons rfl (.cons rfl (.cons rfl (.cons rfl (.cons rfl .nil))))))))) rfl
        · refine run1 ?_
          exact meet.n (a, m) (.inr ⟨by omega, rfl⟩) (.cons rfl (.cons rfl (.cons rfl (.cons rfl (.cons rfl (.cons rfl (.cons rfl (.cons rfl (.cons rfl .nil))))))))) rfl
      rintro ⟨st, r0⟩ hst
      have hst' : (d < m ∧ st = d + m - e ∧ r0 = d) ∨ (m ≤ d ∧ st = a ∧ r0 = m) := by
        rcases hst with ⟨h1, h2⟩ | ⟨h1, h2⟩
        · injection h2 with h2 h3; exact .inl ⟨h1, h2, h3⟩
        · injection h2 with h2 h3; exact .inr ⟨h1, h2, h3⟩
      clear hst
      have B1 : a ≤ st := by omega
      have B2 : st ≤ r0 := by omega
      have B3 : r0 ≤ m := by omega
      have B4 : r0 ≤ d := by omega
      have B5 : d - st ≤ e - m := by omega
      dsimp only
      refine run1 ?_
      refine W.loop (α := Nat × Nat × St) (fun p => [(0, .slice (some ⟨b, 0, none⟩) N c), (1, nI a), (2, nI m), (3, nI e), (4, byk), (18, nI d), (19, nI (d + m)), (22, nI (d + m - 1)), (20, nI p.1), (21, nI p.2.1)]) (fun _ => []) (fun p => p.2.2)
        (fun p => st ≤ p.1 ∧ p.1 ≤ p.2.1 ∧ p.2.1 ≤ r0 ∧ Dt s0 p.2.2 b (P ++ (U ++ (V ++ R))) γ ∧ (p.1 = st ∨ (st ≤ p.1 - 1 ∧ 0 < p.1 ∧ ∃ u v, U[p.1 - 1 - a]? = some u ∧ V[d - p.1]? = some v ∧ ¬ Lt (eky v) (eky u))) ∧ (p.2.1 = r0 ∨ (p.2.1 < r0 ∧ ∃ u v, U[p.2.1 - a]? = some u ∧ V[d - 1 - p.2.1]? = some v ∧ Lt (eky v) (eky u))))
        (fun p => p.2.1 - p.1) (st, r0, s) ⟨Nat.le_refl _, B2, Nat.le_refl _, h, .inl rfl, .inl rfl⟩ (.cons rfl (.cons rfl (.cons rfl (.cons rfl (.cons rfl (.cons rfl (.cons rfl (.cons rfl (.cons rfl (.cons rfl .nil)))))))))) rfl rfl (by show r0 - st < _; omega) ?_
      rintro ⟨i, j, s1⟩ ⟨k1, k2, k3, k4, k5, k6⟩
      dsimp only at k1 k2 k3 k4 k5 k6 ⊢
      by_cases hij : i < j
      · refine run1 ?_
        refine Wo.val rfl (Xv.cv rfl rfl rfl (half_ok (by omega))) rfl ?_
        have hb1 : i ≤ (i + j) / 2 := by omega
        have hb2 : (i + j) / 2 < j := by omega
        obtain ⟨t, ht⟩ : ∃ t, t = (i + j) / 2 := ⟨_, rfl⟩
        rw [← ht] at hb1 hb2 ⊢
        obtain ⟨u, hu1⟩ := at_lt (l := U) (k := t - a) (by omega)
        obtain ⟨v, hv1⟩ := at_lt (l := V) (k := d - 1 - t) (by omega)
        have w2 : (P ++ (U ++ (V ++ R)))[t]? = some u := by rw [idx1 hP (by omega) (by omega)]; exact hu1
        have w3 : (P ++ (U ++ (V ++ R)))[d + m - 1 - t]? = some v := by rw [idx2 hP hU (by omega) (by omega), show d + m - 1 - t - m = d - 1 - t by omega]; exact hv1
        have d2 := k4.ldn w2
        have d3 := k4.ldn w3
        have hbt : t < N := by omega
        have hba : d + m - 1 - t < N := by omega
        refine run1 ?_
        refine W.dr [(0, .none, 0), (1, .none, 0), (2, .none, 0), (3, .none, 0), (4, .none, 12), (5, .none, 30), (6, .reads, 62), (7, .none, 0), (8, .none, 0), (9, .none, 384), (10, .reads, 896), (11, .acts, 2047), (12, .none, 4095), (13, .none, 8191)] (by kernel_rfl) rfl ?_
        refine run1 ?_
        refine Wd.read rfl (Xv.ldN rfl rfl rfl d3) rfl (k4.eqv w3) ⟨Xv.ldN rfl rfl rfl d3, trivial⟩ ?_
        refine run1 ?_
        refine Wd.read rfl (Xv.ldN rfl rfl rfl d2) rfl (k4.eqv w2) ⟨Xv.ldN rfl rfl rfl d2, trivial⟩ ?_
        refine Wd.call rfl (Xc.callv rfl ok18 rfl) rfl ((bykey_el k4 w3 w2).mono ?_)
        rintro vv s3 ⟨rfl, D3, nx3⟩
        refine ⟨nx3, ?_⟩
        by_cases hc : cmp v.2.1 u.2.1 < Int.ofNat 0
        · refine run1 ?_
          exact rnd.n (i, t, s3) ⟨k1, hb1, by show t ≤ r0; omega, D3, k5, .inr ⟨by show t < r0; omega, u, v, hu1, hv1, hc⟩⟩ (by show t - i < j - i; omega) (.cons rfl (.cons rfl (.cons rfl (.cons rfl (.cons rfl (.cons rfl (.cons rfl (.cons rfl (.cons rfl (.cons rfl .nil)))))))))) rfl rfl
        · refine run1 ?_
          exact rnd.n (t + 1, j, s3) ⟨by show st ≤ t + 1; omega, by show t + 1 ≤ j; omega, k3, D3, .inr ⟨by show st ≤ t + 1 - 1; omega, by show 0 < t + 1; omega, u, v, hu1, by rw [show d - (t + 1) = d - 1 - t by omega]; exact hv1, hc⟩, k6⟩ (by show j - (t + 1) < j - i; omega) (.cons rfl (.cons rfl (.cons rfl (.cons rfl (.cons rfl (.cons rfl (.cons rfl (.cons rfl (.cons rfl (.cons rfl .nil)))))))))) rfl rfl
      · have hie : j = i := by omega
        subst hie
        have h1 : ∀ v ∈ V.take (d - j), ∀ u ∈ U.drop (j - a), Lt (eky v) (eky u) := fun v hv' u hu' => by
          rcases k6 with e1 | ⟨hlt, u0, v0, e1, e2, e3⟩
          · rcases hst' with ⟨c1, c2, c3⟩ | ⟨c1, c2, c3⟩
            · rw [show d - j = 0 by omega] at hv'; simp at hv'
            · rw [List.drop_eq_nil_of_le (show U.length ≤ j - a by omega)] at hu'; simp at hu'
          · exact (Lt.lelt (srt_take oV e2 v (by rw [show d - 1 - j + 1 = d - j by omega]; exact hv')) e3).ltle (srt_drop oU e1 u hu')
        have h2 : ∀ u ∈ U.take (j - a), ∀ v ∈ V.drop (d - j), ¬ Lt (eky v) (eky u) := fun u hu' v hv' => by
          rcases k5 with e1 | ⟨hlt, hp, u0, v0, e1, e2, e3⟩
          · rcases hst' with ⟨c1, c2, c3⟩ | ⟨c1, c2, c3⟩
            · rw [List.drop_eq_nil_of_le (show V.length ≤ d - j by omega)] at hv'; simp at hv'
            · rw [show j - a = 0 by omega] at hu'; simp at hu'
          · exact Lt.lele (Lt.lele (srt_take oU e1 u (by rw [show j - 1 - a + 1 = j - a by omega]; exact hu')) e3) (srt_drop oV e2 v hv')
        have eU : U = U.take (j - a) ++ U.drop (j - a) := (List.take_append_drop _ _).symm
        have eV : V = V.take (d - j) ++ V.drop (d - j) := (List.take_append_drop _ _).symm
        have lU1 : (U.take (j - a)).length = j - a := by rw [List.length_take]; omega
        have lU2 : (U.drop (j - a)).length = m - j := by rw [List.length_drop]; omega
        have lV1 : (V.take (d - j)).length = d - j := by rw [List.length_take]; omega
        have lV2 : (V.drop (d - j)).length = e - m - (d - j) := by rw [List.length_drop]; omega
        have oU1 : Srt eky (U.take (j - a)) := by rw [eU] at oU; exact oU.left
        have oU2 : Srt eky (U.drop (j - a)) := by rw [eU] at oU; exact oU.right
        have oV1 : Srt eky (V.take (d - j)) := by rw [eV] at oV; exact oV.left
        have oV2 : Srt eky (V.drop (d - j)) := by rw [eV] at oV; exact oV.right
        have fin : ∀ M1 M2, Sta eky (U.take (j - a) ++ V.take (d - j)) M1 → Sta eky (U.drop (j - a) ++ V.drop (d - j)) M2 → Srt eky M1 → Srt eky M2 → Sta eky (U ++ V) (M1 ++ M2) ∧ Srt eky (M1 ++ M2) := fun M1 M2 a1 a2 a3 a4 => by
          have := merge_ok (by rw [← eU]; exact oU) (by rw [← eV]; exact oV) h1 h2 a1 a2 a3 a4
          rwa [← eU, ← eV] at this
        generalize hU1 : U.take (j - a) = U1 at *
        generalize hU2 : U.drop (j - a) = U2 at *
        generalize hV1 : V.take (d - j) = V1 at *
        generalize hV2 : V.drop (d - j) = V2 at *
        clear h1 h2
        refine run1 ?_
        refine Wo.meet (α := St) (fun _ => [(0, .slice (some ⟨b, 0, none⟩) N c), (1, nI a), (3, nI e), (4, byk), (18, nI d), (20, nI j), (24, nI (d + m - j))]) (fun p => p) (fun s2 => Dt s0 s2 b (P ++ ((U1 ++ V1) ++ ((U2 ++ V2) ++ R))) γ) ?_ ?_
        · have k4' : Dt s0 s1 b ((P ++ U1) ++ (U2 ++ (V1 ++ (V2 ++ R)))) γ := by rw [eU, eV] at k4; simpa using k4
          by_cases c1 : j < m
          · by_cases c2 : m < d + m - j
            · refine run1 ?_
              refine Wo.call rfl (Xc.call ok62 rfl) rfl ((rotate_ok k4' (a := j) (m := m) (e := d + m - j) (N := N) (by rw [List.length_append]; omega) (by omega) (by omega) (by rw [List.length_append]; omega) hL (by omega) (by omega)).mono ?_)
              intro vv s2 D2
              refine run1 ?_
              exact meet.n s2 (by simpa using D2) (.cons rfl (.cons rfl (.cons rfl (.cons rfl (.cons rfl (.cons rfl (.cons rfl .nil))))))) rfl
            · refine run1 ?_
              have hz : V1 = [] := List.eq_nil_of_length_eq_zero (by omega)
              subst hz
              exact meet.n s1 (by simpa using k4') (.cons rfl (.cons rfl (.cons rfl (.cons rfl (.cons rfl (.cons rfl (.cons rfl .nil))))))) rfl
          · refine run1 ?_
            have hz : U2 = [] := List.eq_nil_of_length_eq_zero (by omega)
            subst hz
            exact meet.n s1 (by simpa using k4') (.cons rfl (.cons rfl (.cons rfl (.cons rfl (.cons rfl (.cons rfl (.cons rfl .nil))))))) rfl
        intro s2 D2
        refine run1 ?_
        refine Wo.meet (α := St × List El) (fun _ => [(0, .slice (some ⟨b, 0, none⟩) N c), (3, nI e), (4, byk), (18, nI d), (24, nI (d + m - j))]) (fun p => p.1) (fun p => Dt s0 p.1 b (P ++ (p.2 ++ ((U2 ++ V2) ++ R))) γ ∧ Sta eky (U1 ++ V1) p.2 ∧ Srt eky p.2 ∧ p.2.length = d - a) ?_ ?_
        · by_cases c1 : a < j
          · by_cases c2 : j < d
            · refine run1 ?_
              refine Wo.call rfl (Xc.call ok48 rfl) rfl ((ih (P := P) (U := U1) (V := V1) (R := (U2 ++ V2) ++ R) (a := a) (m := j) (e := d) (N := N) (by omega) (by rw [← List.append_assoc U1]; exact D2) hP (by omega) (by omega) (by rw [List.length_append, List.length_append]; omega) hL (by omega) (by omega) oU1 oV1).mono ?_)
              rintro vv s3 ⟨M1, D3, a1, a2, a3⟩
              refine run1 ?_
              exact meet.n (s3, M1) ⟨D3, a1, a2, by show M1.length = d - a; omega⟩ (.cons rfl (.cons rfl (.cons rfl (.cons rfl (.cons rfl .nil))))) rfl
            · refine run1 ?_
              have hz : V1 = [] := List.eq_nil_of_length_eq_zero (by omega)
              subst hz
              rw [List.append_nil] at D2
              exact meet.n (s2, U1) ⟨D2, by rw [List.append_nil]; exact .refl, oU1, by show U1.length = d - a; omega⟩ (.cons rfl (.cons rfl (.cons rfl (.cons rfl (.cons rfl .nil))))) rfl
          · refine run1 ?_
            have hz : U1 = [] := List.eq_nil_of_length_eq_zero (by omega)
            subst hz
            rw [List.nil_append] at D2
            exact meet.n (s2, V1) ⟨D2, by rw [List.nil_append]; exact .refl, oV1, by show V1.length = d - a; omega⟩ (.cons rfl (.cons rfl (.cons rfl (.cons rfl (.cons rfl .nil))))) rfl
        rintro ⟨s3, M1⟩ ⟨D3, a1, a2, a3⟩
        dsimp only at D3 a1 a2 a3 ⊢
        refine run1 ?_
        by_cases c1 : d < d + m - j
        · by_cases c2 : d + m - j < e
          · refine run1 ?_
            refine Wo.call rfl (Xc.call ok48 rfl) rfl ((ih (P := P ++ M1) (U := U2) (V := V2) (R := R) (a := d) (m := d + m - j) (e := e) (N := N) (by omega) (by simpa using D3) (by rw [List.length_append]; omega) (by omega) (by omega) hN hL (by omega) (by omega) oU2 oV2).mono ?_)
            rintro vv s4 ⟨M2, D4, b1, b2, b3⟩
            refine run1 ?_
            obtain ⟨f1, f2⟩ := fin M1 M2 a1 b1 a2 b2
            exact Lv.nrm rfl ⟨M1 ++ M2, by simpa using D4, f1, f2, by rw [List.length_append]; omega⟩
          · refine run1 ?_
            have hz : V2 = [] := List.eq_nil_of_length_eq_zero (by omega)
            subst hz
            obtain ⟨f1, f2⟩ := fin M1 U2 a1 (by rw [List.append_nil]; exact .refl) a2 oU2
            exact Lv.nrm rfl ⟨M1 ++ U2, by simpa using D3, f1, f2, by rw [List.length_append]; omega⟩
        · refine run1 ?_
          have hz : U2 = [] := List.eq_nil_of_length_eq_zero (by omega)
          subst hz
          obtain ⟨f1, f2⟩ := fin M1 V2 a1 (by rw [List.nil_append]; exact .refl) a2 oV2
          exact Lv.nrm rfl ⟨M1 ++ V2, by simpa using D3, f1, f2, by rw [List.length_append]; omega⟩
end Go.Proofs.YtdibpdpcbnijeaaGreatDoor
