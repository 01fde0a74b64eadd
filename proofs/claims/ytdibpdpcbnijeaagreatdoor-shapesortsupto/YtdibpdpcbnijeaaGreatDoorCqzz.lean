import Derived.Test.YtdibpdpcbnijeaaGreatDoorCkzz
/-
  slices: swapRangeCmpFunc, rotateCmpFunc, insertionSortCmpFunc, over entries.
-/
namespace Go.Proofs.YtdibpdpcbnijeaaGreatDoor
open Go Go.Ev Go.Sy
set_option maxRecDepth 100000
variable {s s0 : St} {b γ c : Nat}
/-- The comparison, as a value. -/
abbrev byk : Value := .func (.func 18) #[] #[]
abbrev eky (x : El) : List Nat := x.2.1
theorem swapr_ok {P X Q Y R : List El} {a e n N : Nat} (h : Dt s0 s b (P ++ (X ++ (Q ++ (Y ++ R)))) γ) (hP : P.length = a) (hX : X.length = n) (hQ : a + n + Q.length = e) (hY : Y.length = n) (hN : e + n + R.length = N) (hM : N < 2 ^ 60) :
    Cl B (.call 82 [.slice (some ⟨b, 0, none⟩) N c, nI a, nI e, nI n, byk]) s fun _ s' => Dt s0 s' b (P ++ (Y ++ (Q ++ (X ++ R)))) γ := by
  refine Cl.enter Tryz.f82 fn82 rfl rfl rfl ?_
  refine run1 ?_
  refine W.loop (α := Nat × St) (fun p => [(0, .slice (some ⟨b, 0, none⟩) N c), (1, nI a), (2, nI e), (3, nI n), (10, nI p.1)]) (fun _ => []) (fun p => p.2)
    (fun p => p.1 ≤ n ∧ Dt s0 p.2 b (P ++ ((Y.take p.1 ++ X.drop p.1) ++ (Q ++ ((X.take p.1 ++ Y.drop p.1) ++ R)))) γ) (fun p => n - p.1) (0, s) ⟨Nat.zero_le _, h⟩ (.cons rfl (.cons rfl (.cons rfl (.cons rfl (.cons rfl .nil))))) rfl rfl (by show n - 0 < _; omega) ?_
  rintro ⟨i, s1⟩ ⟨k1, k2⟩
  dsimp only at k1 k2 ⊢
  by_cases hi : i < n
  · obtain ⟨x, hx⟩ : ∃ x, X[i]? = some x := ⟨X[i], List.getElem?_eq_getElem (by omega)⟩
    obtain ⟨y, hy⟩ : ∃ y, Y[i]? = some y := ⟨Y[i], List.getElem?_eq_getElem (by omega)⟩
    have ex : X.drop i = x :: X.drop (i + 1) := by rw [List.drop_eq_getElem_cons (by omega)]; congr 1; rw [List.getElem?_eq_getElem (by omega)] at hx; injection hx
    have ey : Y.drop i = y :: Y.drop (i + 1) := by rw [List.drop_eq_getElem_cons (by omega)]; congr 1; rw [List.getElem?_eq_getElem (by omega)] at hy; injection hy
    have tx : X.take (i + 1) = X.take i ++ [x] := by rw [List.take_add_one, hx]; rfl
    have ty : Y.take (i + 1) = Y.take i ++ [y] := by rw [List.take_add_one, hy]; rfl
    have l1 : (Y.take i).length = i := by rw [List.length_take]; omega
    have l2 : (X.take i).length = i := by rw [List.length_take]; omega
    have l3 : (X.drop (i + 1)).length = n - i - 1 := by rw [List.length_drop]; omega
    obtain ⟨w1, w2, w3⟩ := swap_at (P := P ++ Y.take i) (M := X.drop (i + 1) ++ (Q ++ X.take i)) (R := Y.drop (i + 1) ++ R) (x := x) (y := y) (i := a + i) (j := e + i) (by rw [List.length_append, l1, hP]) (by simp only [List.length_append, l2, l3]; omega)
    have e1 : P ++ ((Y.take i ++ X.drop i) ++ (Q ++ ((X.take i ++ Y.drop i) ++ R))) = (P ++ Y.take i) ++ x :: ((X.drop (i + 1) ++ (Q ++ X.take i)) ++ y :: (Y.drop (i + 1) ++ R)) := by rw [ex, ey]; simp
    have e2 : (P ++ Y.take i) ++ y :: ((X.drop (i + 1) ++ (Q ++ X.take i)) ++ x :: (Y.drop (i + 1) ++ R)) = P ++ ((Y.take (i + 1) ++ X.drop (i + 1)) ++ (Q ++ ((X.take (i + 1) ++ Y.drop (i + 1)) ++ R))) := by rw [tx, ty]; simp
    rw [e1] at k2
    rw [e2] at w1
    generalize hL : (P ++ Y.take i) ++ x :: ((X.drop (i + 1) ++ (Q ++ X.take i)) ++ y :: (Y.drop (i + 1) ++ R)) = L at k2 w1 w2 w3
    have hi1 : a + i < L.length := (List.getElem?_eq_some_iff.1 w2).1
    have hi2 : e + i < L.length := (List.getElem?_eq_some_iff.1 w3).1
    have d1 := k2.ldn w2
    have d2 := k2.ldn w3
    have g1 : good (some (⟨b, 0, none⟩ : Addr)) := ⟨_, _, rfl⟩
    refine run1 ?_
    refine W.dr [(0, .none, 0), (1, .none, 0), (2, .none, 0), (3, .none, 6), (8, .none, 0), (9, .none, 0), (10, .none, 0), (11, .none, 1536), (12, .none, 3840), (13, .reads, 7936), (14, .none, 0), (15, .none, 0), (16, .none, 0), (17, .none, 98304), (18, .none, 245760), (19, .reads, 507904), (20, .none, 1048335), (21, .acts, 2096911), (4, .none, 0), (5, .none, 0), (6, .none, 0), (7, .none, 96), (22, .none, 4194303), (23, .acts, 8388607)] (by kernel_rfl) rfl ?_
    refine run1 ?_
    refine Wd.read rfl (Xv.ldN rfl rfl rfl d2) rfl (k2.eqv w3) ⟨Xv.ldN rfl rfl rfl d2, trivial⟩ ?_
    refine run1 ?_
    refine Wd.read rfl (Xv.ldN rfl rfl rfl d1) rfl (k2.eqv w2) ⟨Xv.ldN rfl rfl rfl d1, trivial⟩ ?_
    refine run1 ?_
    refine Wd.st rfl rfl rfl rfl rfl rfl rfl (k2.one w3) k2.rw (k2.len hi1) ?_
    intro s2 j1 j2 j3
    have D2 := k2.set hi1 j1 j3 (k2.bs w3)
    refine run1 ?_
    refine Wd.st rfl rfl rfl rfl rfl rfl rfl (k2.one w2) D2.rw (D2.len (by rw [List.length_set]; exact hi2)) ?_
    intro s3 j4 j5 j6
    have D3 := D2.set (by rw [List.length_set]; exact hi2) j4 j6 (k2.bs w2)
    rw [w1] at D3
    refine run1 ?_
    exact rnd.n (i + 1, s3) ⟨by omega, D3⟩ (by show n - (i + 1) < n - i; omega) (.cons rfl (.cons rfl (.cons rfl (.cons rfl (.cons rfl .nil))))) rfl rfl
  · refine run1 ?_
    have hie : i = n := by omega
    subst hie
    rw [List.take_of_length_le (by omega), List.take_of_length_le (by omega), List.drop_eq_nil_of_le (by omega), List.drop_eq_nil_of_le (by omega), List.append_nil, List.append_nil] at k2
    exact Lv.nrm rfl k2
theorem rotate_ok {P U V R : List El} {a m e N : Nat} (h : Dt s0 s b (P ++ (U ++ (V ++ R))) γ) (hP : P.length = a) (hU : a + U.length = m) (hV : m + V.length = e) (hN : e + R.length = N) (hM : N < 2 ^ 60) (hu : 0 < U.length) (hv : 0 < V.length) :
    Cl B (.call 62 [.slice (some ⟨b, 0, none⟩) N c, nI a, nI m, nI e, byk]) s fun _ s' => Dt s0 s' b (P ++ (V ++ (U ++ R))) γ := by
  refine Cl.enter Tryz.f62 fn62 rfl rfl rfl ?_
  have q1 : a ≤ m := by omega
  have q2 : m ≤ e := by omega
  have q3 : m < 2 ^ 60 := by omega
  have q4 : e < 2 ^ 60 := by omega
  refine run1 ?_
  refine W.loop (α := Nat × Nat × St × List El × List El × List El × List El) (fun p => [(0, .slice (some ⟨b, 0, none⟩) N c), (2, nI m), (4, byk), (10, nI p.1), (11, nI p.2.1)]) (fun _ => []) (fun p => p.2.2.1)
    (fun p => 0 < p.1 ∧ 0 < p.2.1 ∧ p.1 + p.2.2.2.1.length = m ∧ p.2.2.2.2.1.length = p.1 ∧ p.2.2.2.2.2.1.length = p.2.1 ∧ m + p.2.1 + p.2.2.2.2.2.2.length = N ∧ Dt s0 p.2.2.1 b (p.2.2.2.1 ++ (p.2.2.2.2.1 ++ (p.2.2.2.2.2.1 ++ p.2.2.2.2.2.2))) γ ∧ p.2.2.2.1 ++ (p.2.2.2.2.2.1 ++ (p.2.2.2.2.1 ++ p.2.2.2.2.2.2)) = P ++ (V ++ (U ++ R)))
    (fun p => p.1 + p.2.1) (m - a, e - m, s, P, U, V, R) ⟨by show 0 < m - a; omega, by show 0 < e - m; omega, by show m - a + P.length = m; omega, by show U.length = m - a; omega, by show V.length = e - m; omega, by show m + (e - m) + R.length = N; omega, h, rfl⟩ (.cons rfl (.cons rfl (.cons rfl (.cons rfl (.cons rfl .nil))))) rfl rfl (by show m - a + (e - m) < _; omega) ?_
  rintro ⟨i, j, s1, P', U', V', R'⟩ ⟨k1, k2, k3, k4, k5, k6, k7, k8⟩
  dsimp only at k1 k2 k3 k4 k5 k6 k7 k8 ⊢
  by_cases hij : i ≠ j
  · by_cases hgt : j < i
    · refine run1 ?_
      have e1 : U' = U'.take j ++ U'.drop j := (List.take_append_drop _ _).symm
      have t1 : (U'.take j).length = j := by rw [List.length_take]; omega
      have t2 : (U'.drop j).length = i - j := by rw [List.length_drop]; omega
      have k7' : Dt s0 s1 b (P' ++ (U'.take j ++ (U'.drop j ++ (V' ++ R')))) γ := by rw [← List.append_assoc (U'.take j), ← e1]; exact k7
      refine Wo.call rfl (Xc.call ok82 rfl) rfl ((swapr_ok k7' (a := m - i) (e := m) (n := j) (N := N) (by omega) t1 (by omega) k5 (by omega) hM).mono ?_)
      intro v s2 D2
      refine run1 ?_
      refine rnd.n (i - j, j, s2, P' ++ V', U'.drop j, U'.take j, R') ⟨by show 0 < i - j; omega, k2, by show i - j + (P' ++ V').length = m; rw [List.length_append]; omega, t2, t1, k6, by show Dt s0 s2 b ((P' ++ V') ++ (U'.drop j ++ (U'.take j ++ R'))) γ; rw [List.append_assoc]; exact D2, ?_⟩ (by show i - j + j < i + j; omega) (.cons rfl (.cons rfl (.cons rfl (.cons rfl (.cons rfl .nil))))) rfl rfl
      show (P' ++ V') ++ (U'.take j ++ (U'.drop j ++ R')) = _
      rw [← k8, List.append_assoc, ← List.append_assoc (U'.take j), ← e1]
    · refine run1 ?_
      have e1 : V' = V'.take (j - i) ++ V'.drop (j - i) := (List.take_append_drop _ _).symm
      have t1 : (V'.take (j - i)).length = j - i := by rw [List.length_take]; omega
      have t2 : (V'.drop (j - i)).length = i := by rw [List.length_drop]; omega
      have k7' : Dt s0 s1 b (P' ++ (U' ++ (V'.take (j - i) ++ (V'.drop (j - i) ++ R')))) γ := by rw [← List.append_assoc (V'.take (j - i)), ← e1]; exact k7
      refine Wo.call rfl (Xc.call ok82 rfl) rfl ((swapr_ok k7' (a := m - i) (e := m + j - i) (n := i) (N := N) (by omega) k4 (by omega) t2 (by omega) hM).mono ?_)
      intro v s2 D2
      refine run1 ?_
      refine rnd.n (i, j - i, s2, P', V'.drop (j - i), V'.take (j - i), U' ++ R') ⟨k1, by show 0 < j - i; omega, k3, t2, t1, by show m + (j - i) + (U' ++ R').length = N; rw [List.length_append]; omega, D2, ?_⟩ (by show i + (j - i) < i + j; omega) (.cons rfl (.cons rfl (.cons rfl (.cons rfl (.cons rfl .nil))))) rfl rfl
      show P' ++ (V'.take (j - i) ++ (V'.drop (j - i) ++ (U' ++ R'))) = _
      rw [← k8, ← List.append_assoc (V'.take (j - i)), ← e1]
  · refine run1 ?_
    have hie : i = j := Classical.not_not.1 hij
    subst hie
    have k7' : Dt s0 s1 b (P' ++ (U' ++ ([] ++ (V' ++ R')))) γ := k7
    refine Wo.call rfl (Xc.call ok82 rfl) rfl ((swapr_ok k7' (a := m - i) (e := m) (n := i) (N := N) (by omega) k4 (by show m - i + i + 0 = m; omega) k5 (by omega) hM).mono ?_)
    intro v s2 D2
    refine run1 ?_
    refine Lv.nrm rfl ?_
    rw [← k8]; exact D2
theorem insort_ok {P M R : List El} {a e N : Nat} (h : Dt s0 s b (P ++ (M ++ R)) γ) (hP : P.length = a) (hM : a + M.length = e) (hN : e + R.length = N) (hL : N < 2 ^ 60) :
    Cl B (.call 47 [.slice (some ⟨b, 0, none⟩) N c, nI a, nI e, byk]) s fun _ s' => ∃ M', Dt s0 s' b (P ++ (M' ++ R)) γ ∧ Sta eky M M' ∧ Srt eky M' ∧ M'.length = M.length := by
  refine Cl.enter Tryz.f47 fn47 rfl rfl rfl ?_
  have q1 : a < 2 ^ 60 := by omega
  refine run1 ?_
  refine W.loop (α := Nat × St × List El × List El) (fun p => [(0, .slice (some ⟨b, 0, none⟩) N c), (1, nI a), (2, nI e), (3, byk), (8, nI p.1)]) (fun _ => []) (fun p => p.2.1)
    (fun p => a < p.1 ∧ p.2.2.1.length = min (p.1 - a) M.length ∧ p.2.2.1.length + p.2.2.2.length = M.length ∧ Dt s0 p.2.1 b (P ++ ((p.2.2.1 ++ p.2.2.2) ++ R)) γ ∧ Sta eky M (p.2.2.1 ++ p.2.2.2) ∧ Srt eky p.2.2.1)
    (fun p => e - p.1) (a + 1, s, M.take 1, M.drop 1) ⟨Nat.lt_succ_self _, by show (M.take 1).length = min (a + 1 - a) M.length; rw [List.length_take]; omega, by show (M.take 1).length + (M.drop 1).length = _; rw [List.length_take, List.length_drop]; omega, by show Dt s0 s b (P ++ ((M.take 1 ++ M.drop 1) ++ R)) γ; rw [List.take_append_drop]; exact h, by show Sta eky M (M.take 1 ++ M.drop 1); rw [List.take_append_drop]; exact .refl, by show Srt eky (M.take 1); cases M with | nil => exact .nil | cons x M => exact List.pairwise_singleton _ _⟩ (.cons rfl (.cons rfl (.cons rfl (.cons rfl (.cons rfl .nil))))) rfl rfl (by show e - (a + 1) < _; omega) ?_
  rintro ⟨i, s1, S, T⟩ ⟨k0, k1, k2, k3, k4, k5⟩
  dsimp only at k0 k1 k2 k3 k4 k5 ⊢
  by_cases hi : i < e
  · cases T with
    | nil => simp at k2; omega
    | cons x T =>
    have hSl : S.length = i - a := by omega
    have hT : S.length + T.length + 1 = M.length := by rw [← k2, List.length_cons]; omega
    refine run1 ?_
    refine W.loop (α := Nat × St × List El × List El) (fun p => [(0, .slice (some ⟨b, 0, none⟩) N c), (1, nI a), (2, nI e), (3, byk), (8, nI i), (9, nI p.1)]) (fun _ => []) (fun p => p.2.1)
      (fun p => p.1 = a + p.2.2.1.length ∧ p.2.2.1 ++ p.2.2.2 = S ∧ Dt s0 p.2.1 b ((P ++ p.2.2.1) ++ x :: (p.2.2.2 ++ (T ++ R))) γ ∧ ∀ y ∈ p.2.2.2, Lt (eky x) (eky y))
      (fun p => p.1) (i, s1, S, []) ⟨by show i = a + S.length; omega, List.append_nil S, by show Dt s0 s1 b ((P ++ S) ++ x :: ([] ++ (T ++ R))) γ; simpa using k3, by simp⟩ (.cons rfl (.cons rfl (.cons rfl (.cons rfl (.cons rfl (.cons rfl .nil)))))) rfl rfl (by show i < _; omega) ?_
    rintro ⟨j, s2, S1, S2⟩ ⟨j1, j2, j3, j4⟩
    dsimp only at j1 j2 j3 j4 ⊢
    have hSS : S1.length + S2.length = S.length := by rw [← j2, List.length_append]
    have done : ∀ s3, Dt s0 s3 b ((P ++ S1) ++ x :: (S2 ++ (T ++ R))) γ → (∀ y ∈ S1, ¬ Lt (eky x) (eky y)) → i + 1 > a ∧ (S1 ++ x :: S2).length = min (i + 1 - a) M.length ∧ (S1 ++ x :: S2).length + T.length = M.length ∧ Dt s0 s3 b (P ++ (((S1 ++ x :: S2) ++ T) ++ R)) γ ∧ Sta eky M ((S1 ++ x :: S2) ++ T) ∧ Srt eky (S1 ++ x :: S2) := fun s3 D hle => by
      have hl : (S1 ++ x :: S2).length = S.length + 1 := by rw [List.length_append, List.length_cons]; omega
      refine ⟨by omega, by rw [hl]; omega, by rw [hl]; omega, by simpa using D, ?_, ?_⟩
      · refine k4.trans ?_
        rw [← j2]
        have := (Sta.mid (P := S1) (R := T) (Sta.swap (l := S2) (m := [x]) (f := eky) fun y hy z hz => by rw [List.mem_singleton] at hz; subst hz; exact (j4 y hy).ne.symm))
        simpa using this
      · refine Srt.put (by rw [j2]; exact k5) hle fun y hy => (j4 y hy).asymm
    have g1 : good (some (⟨b, 0, none⟩ : Addr)) := ⟨_, _, rfl⟩
    by_cases hj : a < j
    · obtain ⟨S1', y, rfl⟩ : ∃ S1' y, S1 = S1' ++ [y] := ⟨S1.dropLast, S1.getLast (fun e => by subst e; simp at j1; omega), (List.dropLast_concat_getLast _).symm⟩
      have hl1 : (S1' ++ [y]).length = S1'.length + 1 := by simp
      have e1 : (P ++ (S1' ++ [y])) ++ x :: (S2 ++ (T ++ R)) = (P ++ S1') ++ y :: x :: (S2 ++ (T ++ R)) := by simp
      rw [e1] at j3
      obtain ⟨w1, w2, w3⟩ := swap_at' (P := P ++ S1') (R := S2 ++ (T ++ R)) (x := y) (y := x) (i := j - 1) (j := j) (by rw [List.length_append]; omega) (by omega)
      generalize hLL : (P ++ S1') ++ y :: x :: (S2 ++ (T ++ R)) = L at j3 w1 w2 w3
      have hLn : j < N := by omega
      have hi2 : j < L.length := (List.getElem?_eq_some_iff.1 w3).1
      have hi1 : j - 1 < L.length := (List.getElem?_eq_some_iff.1 w2).1
      have d1 := j3.ldn w2
      have d2 := j3.ldn w3
      refine run1 ?_
      refine W.dr [(0, .none, 0), (1, .none, 0), (2, .none, 3), (3, .none, 7), (4, .none, 15), (5, .none, 15), (6, .none, 15), (7, .none, 111), (8, .reads, 239), (9, .none, 15), (10, .none, 15), (11, .none, 1039), (12, .none, 3599), (13, .reads, 7695), (14, .acts, 16383), (15, .none, 32767), (16, .none, 65535)] (by kernel_rfl) rfl ?_
      refine run1 ?_
      refine Wd.read (gT rfl hj) (Xv.ldN rfl rfl rfl d2) rfl (j3.eqv w3) ⟨Xv.ldN rfl rfl rfl d2, trivial⟩ ?_
      refine run1 ?_
      refine Wd.read (gT rfl hj) (Xv.ldN rfl rfl rfl d1) rfl (j3.eqv w2) ⟨Xv.ldN rfl rfl rfl d1, trivial⟩ ?_
      refine Wd.call (gT rfl hj) (Xc.callv rfl ok18 rfl) rfl ((bykey_el j3 w3 w2).mono ?_)
      rintro v s3 ⟨rfl, D3, nx3⟩
      refine ⟨nx3, ?_⟩
      by_cases hc : cmp x.2.1 y.2.1 < Int.ofNat 0
      · refine run1 ?_
        have d1 := D3.ldn w2
        have d2 := D3.ldn w3
        refine W.dr [(0, .none, 0), (1, .none, 0), (5, .none, 0), (6, .none, 0), (7, .none, 64), (8, .none, 224), (9, .reads, 480), (10, .none, 0), (11, .none, 0), (12, .none, 3072), (13, .reads, 7168), (14, .none, 16355), (15, .acts, 32739), (2, .none, 0), (3, .none, 0), (4, .none, 8), (16, .none, 65535), (17, .acts, 131071)] (by kernel_rfl) rfl ?_
        refine run1 ?_
        refine Wd.read rfl (Xv.ldN rfl rfl rfl d1) rfl (D3.eqv w2) ⟨Xv.ldN rfl rfl rfl d1, trivial⟩ ?_
        refine run1 ?_
        refine Wd.read rfl (Xv.ldN rfl rfl rfl d2) rfl (D3.eqv w3) ⟨Xv.ldN rfl rfl rfl d2, trivial⟩ ?_
        refine run1 ?_
        refine Wd.st rfl rfl rfl rfl rfl rfl rfl (D3.one w2) D3.rw (D3.len hi2) ?_
        intro s4 a1 a2 a3
        have D4 := D3.set hi2 a1 a3 (D3.bs w2)
        refine run1 ?_
        refine Wd.st rfl rfl rfl rfl rfl rfl rfl (D3.one w3) D4.rw (D4.len (by rw [List.length_set]; exact hi1)) ?_
        intro s5 a4 a5 a6
        have D5 := D4.set (by rw [List.length_set]; exact hi1) a4 a6 (D3.bs w3)
        rw [w1] at D5
        refine run1 ?_
        refine rnd.n (j - 1, s5, S1', y :: S2) ⟨by show j - 1 = a + S1'.length; omega, by show S1' ++ y :: S2 = S; rw [← j2, List.append_assoc]; rfl, D5, fun z hz => ?_⟩ (by show j - 1 < j; omega) (.cons rfl (.cons rfl (.cons rfl (.cons rfl (.cons rfl (.cons rfl .nil)))))) rfl rfl
        rcases List.mem_cons.1 hz with rfl | hz
        · exact hc
        · exact j4 z hz
      · refine run1 ?_
        refine rnd.n (i + 1, s3, (S1' ++ [y]) ++ x :: S2, T) (done s3 (by rw [e1, hLL]; exact D3) fun z hz => ?_) (by show e - (i + 1) < e - i; omega) (.cons rfl (.cons rfl (.cons rfl (.cons rfl (.cons rfl .nil))))) rfl rfl
        rw [← j2] at k5
        rcases List.mem_append.1 hz with hz | hz
        · exact Lt.lele (k5.left.cross z hz y (List.mem_singleton.2 rfl)) hc
        · rw [List.mem_singleton] at hz; subst hz; exact hc
    · refine run1 ?_
      have hS1 : S1 = [] := List.eq_nil_of_length_eq_zero (by omega)
      refine W.dr [(0, .none, 0), (1, .none, 0), (2, .none, 3), (3, .none, 7), (4, .none, 15), (5, .none, 15), (6, .none, 15), (7, .none, 111), (8, .reads, 239), (9, .none, 15), (10, .none, 15), (11, .none, 1039), (12, .none, 3599), (13, .reads, 7695), (14, .acts, 16383), (15, .none, 32767), (16, .none, 65535)] (by kernel_rfl) rfl ?_
      refine run1 ?_
      refine rnd.n (i + 1, s2, S1 ++ x :: S2, T) (done s2 j3 fun z hz => ?_) (by show e - (i + 1) < e - i; omega) (.cons rfl (.cons rfl (.cons rfl (.cons rfl (.cons rfl .nil))))) rfl rfl
      rw [hS1] at hz; simp at hz
  · refine run1 ?_
    have hT : T = [] := List.eq_nil_of_length_eq_zero (by omega)
    subst hT
    rw [List.append_nil] at k3 k4
    exact Lv.nrm rfl ⟨S, k3, k4, k5, by simpa using k2⟩
end Go.Proofs.YtdibpdpcbnijeaaGreatDoor
