import Derived.Test.YtepeolbbplodfaaGreatDoorPLstq
/-
  Plain facts on rows of bytes, told by the index: what two have in common, which stands first. No program.
-/
namespace Go.Proofs.YtepeolbbplodfaaGreatDoor

/-- how many of the first k are the same from the beginning on -/
def com (Z Y : Nat → Int) : Nat → Nat
  | 0 => 0
  | k + 1 => if com Z Y k = k ∧ Z k = Y k then k + 1 else com Z Y k

theorem com_le (Z Y : Nat → Int) (k : Nat) : com Z Y k ≤ k := by
  induction k with
  | zero => simp [com]
  | succ k ih => simp only [com]; split <;> omega

theorem com_same (Z Y : Nat → Int) (k i : Nat) (h : i < com Z Y k) : Z i = Y i := by
  induction k with
  | zero => simp [com] at h
  | succ k ih =>
    simp only [com] at h
    split at h
    · rename_i hk
      by_cases e : i = k
      · subst e; exact hk.2
      · exact ih (by omega)
    · exact ih h

theorem com_parts (Z Y : Nat → Int) (k : Nat) (h : com Z Y k < k) : Z (com Z Y k) ≠ Y (com Z Y k) := by
  induction k with
  | zero => simp at h
  | succ k ih =>
    simp only [com] at h ⊢
    split at h
    · omega
    · rename_i hk
      rw [if_neg hk]
      have := com_le Z Y k
      by_cases e : com Z Y k = k
      · rw [e]
        intro he
        exact hk ⟨e, he⟩
      · exact ih (by omega)

/-- the one number with these marks -/
theorem com_eq (Z Y : Nat → Int) (m k : Nat) (hk : k ≤ m) (hs : ∀ i, i < k → Z i = Y i) (hp : k < m → Z k ≠ Y k) : com Z Y m = k := by
  have h1 := com_le Z Y m
  by_cases hlt : com Z Y m < k
  · exact absurd (hs _ hlt) (com_parts Z Y m (by omega))
  · by_cases hgt : k < com Z Y m
    · exact absurd (com_same Z Y m k hgt) (hp (by omega))
    · omega

theorem com_stop (Z Y : Nat → Int) (m k : Nat) (hk : k < m) (hs : ∀ i, i < k → Z i = Y i) (hp : Z k ≠ Y k) : com Z Y m = k := com_eq Z Y m k (by omega) hs (fun _ => hp)
theorem com_all (Z Y : Nat → Int) (m : Nat) (hs : ∀ i, i < m → Z i = Y i) : com Z Y m = m := com_eq Z Y m m (by omega) hs (fun h => absurd h (by omega))

theorem com_symm (Z Y : Nat → Int) (m : Nat) : com Y Z m = com Z Y m := by
  apply com_eq
  · exact com_le _ _ _
  · intro i h; exact (com_same _ _ _ _ h).symm
  · intro h e; exact com_parts _ _ _ h e.symm

/-- which stands first: -1, 0, 1 -/
def cmp (n m : Nat) (Z Y : Nat → Int) : Int :=
  if com Z Y (min n m) = n ∧ com Z Y (min n m) = m then 0
  else if com Z Y (min n m) = n then -1
  else if com Z Y (min n m) = m then 1
  else if Z (com Z Y (min n m)) < Y (com Z Y (min n m)) then -1 else 1

theorem cmp_range (n m : Nat) (Z Y : Nat → Int) : cmp n m Z Y = -1 ∨ cmp n m Z Y = 0 ∨ cmp n m Z Y = 1 := by
  unfold cmp
  split
  · simp
  · split
    · simp
    · split
      · simp
      · split <;> simp

theorem cmp_bd (n m : Nat) (Z Y : Nat → Int) : -1 ≤ cmp n m Z Y ∧ cmp n m Z Y ≤ 1 := by
  rcases cmp_range n m Z Y with h | h | h <;> omega

/-- the marks of 'ahead' -/
def Ahead (n m : Nat) (Z Y : Nat → Int) : Prop := ∃ k, k ≤ n ∧ k ≤ m ∧ (∀ i, i < k → Z i = Y i) ∧ ((k = n ∧ k < m) ∨ (k < n ∧ k < m ∧ Z k < Y k))
/-- the marks of 'the same' -/
def Alike (n m : Nat) (Z Y : Nat → Int) : Prop := n = m ∧ ∀ i, i < n → Z i = Y i

theorem cmp_neg_iff (n m : Nat) (Z Y : Nat → Int) : cmp n m Z Y = -1 ↔ Ahead n m Z Y := by
  constructor
  · intro h
    have h1 := com_le Z Y (min n m)
    refine ⟨com Z Y (min n m), by omega, by omega, fun i hi => com_same _ _ _ _ hi, ?_⟩
    unfold cmp at h
    split at h
    · omega
    · split at h
      · left; omega
      · split at h
        · omega
        · split at h
          · right; refine ⟨by omega, by omega, by assumption⟩
          · omega
  · rintro ⟨k, h1, h2, h3, h4⟩
    have e : com Z Y (min n m) = k := by
      apply com_eq _ _ _ _ (by omega) h3
      intro hk he
      rcases h4 with h4 | ⟨_, _, h4⟩
      · omega
      · omega
    unfold cmp
    rw [e]
    rcases h4 with ⟨rfl, h4⟩ | ⟨h5, h6, h7⟩
    · rw [if_neg (by omega), if_pos rfl]
    · rw [if_neg (by omega), if_neg (by omega), if_neg (by omega), if_pos h7]

theorem cmp_zero_iff (n m : Nat) (Z Y : Nat → Int) : cmp n m Z Y = 0 ↔ Alike n m Z Y := by
  constructor
  · intro h
    unfold cmp at h
    split at h
    · rename_i e
      refine ⟨by omega, fun i hi => com_same Z Y (min n m) i (by omega)⟩
    · split at h
      · omega
      · split at h
        · omega
        · split at h <;> omega
  · rintro ⟨rfl, h⟩
    unfold cmp
    have e : com Z Y (min n n) = n := by rw [Nat.min_self]; exact com_all _ _ _ h
    rw [e, if_pos ⟨rfl, rfl⟩]

theorem ahead_anti (n m : Nat) (Z Y : Nat → Int) (h : Ahead n m Z Y) (h' : Ahead m n Y Z) : False := by
  have a := (cmp_neg_iff n m Z Y).2 h
  obtain ⟨k, h1, h2, h3, h4⟩ := h
  obtain ⟨j, g1, g2, g3, g4⟩ := h'
  rcases Nat.lt_trichotomy j k with e | e | e
  · have := h3 j e
    rcases g4 with g4 | ⟨_, _, g4⟩ <;> omega
  · subst e
    rcases g4 with g4 | ⟨_, _, g4⟩ <;> rcases h4 with h4 | ⟨_, _, h4⟩ <;> omega
  · have := g3 k e
    rcases h4 with h4 | ⟨_, _, h4⟩ <;> omega

/-- of two, one is ahead, or they are the same -/
theorem cmp_pos_of (n m : Nat) (Z Y : Nat → Int) (h : cmp n m Z Y = 1) : Ahead m n Y Z := by
  have h1 := com_le Z Y (min n m)
  refine ⟨com Z Y (min n m), by omega, by omega, fun i hi => (com_same _ _ _ _ hi).symm, ?_⟩
  have hp := com_parts Z Y (min n m)
  unfold cmp at h
  split at h
  · omega
  · split at h
    · omega
    · split at h
      · left; omega
      · split at h
        · omega
        · right; refine ⟨by omega, by omega, ?_⟩
          have := hp (by omega)
          omega

theorem cmp_anti (n m : Nat) (Z Y : Nat → Int) : cmp m n Y Z = -cmp n m Z Y := by
  rcases cmp_range n m Z Y with h | h | h
  · rcases cmp_range m n Y Z with g | g | g
    · exact absurd ((cmp_neg_iff _ _ _ _).1 g) (fun x => ahead_anti _ _ _ _ ((cmp_neg_iff _ _ _ _).1 h) x)
    · obtain ⟨rfl, g'⟩ := (cmp_zero_iff _ _ _ _).1 g
      have : cmp m m Z Y = 0 := (cmp_zero_iff _ _ _ _).2 ⟨rfl, fun i hi => (g' i hi).symm⟩
      omega
    · omega
  · obtain ⟨rfl, h'⟩ := (cmp_zero_iff _ _ _ _).1 h
    have : cmp n n Y Z = 0 := (cmp_zero_iff _ _ _ _).2 ⟨rfl, fun i hi => (h' i hi).symm⟩
    omega
  · have := (cmp_neg_iff _ _ _ _).2 (cmp_pos_of _ _ _ _ h)
    omega

theorem cmp_self (n : Nat) (Z : Nat → Int) : cmp n n Z Z = 0 := (cmp_zero_iff _ _ _ _).2 ⟨rfl, fun _ _ => rfl⟩

theorem ahead_trans (n m l : Nat) (Z Y X : Nat → Int) (h : Ahead n m Z Y) (g : Ahead m l Y X) : Ahead n l Z X := by
  obtain ⟨k, h1, h2, h3, h4⟩ := h
  obtain ⟨j, g1, g2, g3, g4⟩ := g
  rcases Nat.lt_trichotomy j k with e | e | e
  · refine ⟨j, by omega, by omega, fun i hi => (h3 i (by omega)).trans (g3 i hi), ?_⟩
    have := h3 j e
    rcases g4 with g4 | ⟨_, _, g4⟩
    · omega
    · right; omega
  · subst e
    refine ⟨j, by omega, by omega, fun i hi => (h3 i (by omega)).trans (g3 i hi), ?_⟩
    rcases h4 with h4 | ⟨_, _, h4⟩ <;> rcases g4 with g4 | ⟨_, _, g4⟩ <;> omega
  · refine ⟨k, by omega, by omega, fun i hi => (h3 i (by omega)).trans (g3 i (by omega)), ?_⟩
    have := g3 k e
    rcases h4 with h4 | ⟨_, _, h4⟩ <;> omega

theorem ahead_congr (n m : Nat) (Z Z' Y Y' : Nat → Int) (h : Ahead n m Z Y) (hz : ∀ i, i < n → Z i = Z' i) (hy : ∀ i, i < m → Y i = Y' i) : Ahead n m Z' Y' := by
  obtain ⟨k, h1, h2, h3, h4⟩ := h
  refine ⟨k, h1, h2, fun i hi => (hz i (by omega)).symm.trans ((h3 i hi).trans (hy i (by omega))), ?_⟩
  rcases h4 with h4 | ⟨h5, h6, h4⟩
  · left; exact h4
  · right; have := hz k h5; have := hy k h6; omega

theorem cmp_congr (n m : Nat) (Z Z' Y Y' : Nat → Int) (hz : ∀ i, i < n → Z i = Z' i) (hy : ∀ i, i < m → Y i = Y' i) : cmp n m Z Y = cmp n m Z' Y' := by
  rcases cmp_range n m Z Y with h | h | h
  · rw [h, (cmp_neg_iff n m Z' Y').2 (ahead_congr _ _ _ _ _ _ ((cmp_neg_iff _ _ _ _).1 h) hz hy)]
  · obtain ⟨rfl, h'⟩ := (cmp_zero_iff _ _ _ _).1 h
    rw [h, (cmp_zero_iff n n Z' Y').2 ⟨rfl, fun i hi => (hz i hi).symm.trans ((h' i hi).trans (hy i hi))⟩]
  · have a := (cmp_neg_iff _ _ _ _).2 (ahead_congr _ _ _ _ _ _ (cmp_pos_of _ _ _ _ h) hy hz)
    have b := cmp_anti m n Y' Z'
    omega

/-- never: not behind, not behind, and yet behind -/
theorem cmp_trans (n m l : Nat) (Z Y X : Nat → Int) (h : cmp n m Z Y ≤ 0) (g : cmp m l Y X ≤ 0) : cmp n l Z X ≤ 0 := by
  rcases cmp_range n m Z Y with a | a | a
  · rcases cmp_range m l Y X with b | b | b
    · have := (cmp_neg_iff _ _ _ _).2 (ahead_trans _ _ _ _ _ _ ((cmp_neg_iff _ _ _ _).1 a) ((cmp_neg_iff _ _ _ _).1 b))
      omega
    · obtain ⟨rfl, b'⟩ := (cmp_zero_iff _ _ _ _).1 b
      have := cmp_congr n m Z Z X Y (fun _ _ => rfl) (fun i hi => (b' i hi).symm)
      omega
    · omega
  · obtain ⟨rfl, a'⟩ := (cmp_zero_iff _ _ _ _).1 a
    have := cmp_congr n l Z Y X X a' (fun _ _ => rfl)
    omega
  · omega

end Go.Proofs.YtepeolbbplodfaaGreatDoor

/-
  cairnref01: Common, Compare, Same.
-/
namespace Go.Proofs.YtepeolbbplodfaaGreatDoor
open Go.RowKit

theorem ret_int {k : IntKind} {a b : Int} (h : a = b) : Ending.returned (.int k a) = .returned (.int k b) := by rw [h]
theorem cmp_both (n m : Nat) (Z Y : Nat → Int) (h1 : com Z Y (min n m) = n) (h2 : com Z Y (min n m) = m) : cmp n m Z Y = 0 := by unfold cmp; rw [if_pos ⟨h1, h2⟩]
theorem cmp_first (n m : Nat) (Z Y : Nat → Int) (h1 : com Z Y (min n m) = n) (h2 : com Z Y (min n m) ≠ m) : cmp n m Z Y = -1 := by unfold cmp; rw [if_neg (fun h => h2 h.2), if_pos h1]
theorem cmp_second (n m : Nat) (Z Y : Nat → Int) (h1 : com Z Y (min n m) ≠ n) (h2 : com Z Y (min n m) = m) : cmp n m Z Y = 1 := by unfold cmp; rw [if_neg (fun h => h1 h.1), if_neg h1, if_pos h2]
theorem cmp_lss (n m : Nat) (Z Y : Nat → Int) (h1 : com Z Y (min n m) ≠ n) (h2 : com Z Y (min n m) ≠ m) (h3 : Z (com Z Y (min n m)) < Y (com Z Y (min n m))) : cmp n m Z Y = -1 := by unfold cmp; rw [if_neg (fun h => h1 h.1), if_neg h1, if_neg h2, if_pos h3]
theorem cmp_gtr (n m : Nat) (Z Y : Nat → Int) (h1 : com Z Y (min n m) ≠ n) (h2 : com Z Y (min n m) ≠ m) (h3 : ¬ Z (com Z Y (min n m)) < Y (com Z Y (min n m))) : cmp n m Z Y = 1 := by unfold cmp; rw [if_neg (fun h => h1 h.1), if_neg h1, if_neg h2, if_neg h3]

set_option maxHeartbeats 800000 in
theorem rcommon_any (w : World) (a a' : Option Addr) (b off n c b' off' n' c' : Nat) (Z Y : Nat → Int) (h : View w a b off n Z) (h' : View w a' b' off' n' Y) :
    Calls Tryz.prog 61 #[.slice a n c, .slice a' n' c'] w fun e w' => e = .returned (.int .i64 (com Z Y (min n n'))) ∧ ∃ q, w' = w.drewN q := by
  have hn := h.len
  have hn' := h'.len
  obtain ⟨M, hM⟩ : ∃ M, M = min n n' := ⟨_, rfl⟩
  rw [← hM]
  have m1 : M ≤ n := by omega
  have m2 : M ≤ n' := by omega
  have m3 : n ≤ M ∨ n' ≤ M := by omega
  have HM : Hid (n ≤ M ∨ n' ≤ M) := m3
  clear hM m3
  go_enter Tryz.func61, Tryz.ntmps61
  go_wp2
  go_loopg [5] M (fun g i wr => ∃ k : Nat, k ≤ M ∧ g = M - k ∧ i = .int .i64 k ∧ (∀ i, i < k → Z i = Y i) ∧ ∃ q, wr = w.drewN q)
  case atStart => exact ⟨0, Nat.zero_le _, rfl, rfl, fun i hi => absurd hi (by omega), 0, rfl⟩
  case round =>
    obtain ⟨k, hk, rfl, rfl, hs, q, rfl⟩ := hrel
    have HS : Hid (∀ i, i < k → Z i = Y i) := hs
    clear hs
    by_cases hkM : k < M
    · obtain rfl := h.at_ (by omega)
      obtain rfl := h'.at_ (by omega)
      have c1 := h.cell k (by omega)
      have c2 := h'.cell k (by omega)
      have i1 : (k : Int) < (n : Int) := by omega
      have i2 : (k : Int) < (n' : Int) := by omega
      clear h h'
      by_cases e : Z k = Y k
      · have e' : (Z k == Y k) = true := by simpa using e
        have HE : Hid (Z k = Y k) := e
        clear e
        go_wp2
        go_quiet (fail)
        go_wp2
        go_roundg (M - (k + 1))
        case measure => omega
        case rel => exact ⟨k + 1, by omega, rfl, by go_num, fun i hi => by by_cases ee : i = k; (subst ee; exact HE.out); exact HS.out i (by omega), _, rfl⟩
      · have e' : (Z k == Y k) = false := by simpa using e
        go_wp2
        go_quiet (fail)
        go_wp2
        go_ret
        exact ⟨ret_int (by rw [com_stop Z Y M k hkM HS.out e]), _, World.drewN_drewN _ _ _⟩
    · have : k = M := by omega
      subst this
      have fin := com_all Z Y k HS.out
      by_cases i1 : (k : Int) < (n : Int)
      · have i2 : decide (k < n') = false := by rcases HM.out with x | x <;> (simp; omega)
        clear h h'
        go_wp2
        go_quiet (fail)
        go_wp2
        go_ret
        exact ⟨ret_int (by rw [fin]), _, World.drewN_drewN _ _ _⟩
      · have i2 : decide (k < n) = false := by simp; omega
        clear h h' i1
        go_wp2
        go_quiet (fail)
        go_wp2
        go_ret
        exact ⟨ret_int (by rw [fin]), _, World.drewN_drewN _ _ _⟩

set_option maxHeartbeats 400000 in
theorem rcompare_any (w : World) (a a' : Option Addr) (b off n c b' off' n' c' : Nat) (Z Y : Nat → Int) (h : View w a b off n Z) (h' : View w a' b' off' n' Y) :
    Calls Tryz.prog 38 #[.slice a n c, .slice a' n' c'] w fun e w' => e = .returned (.int .i64 (cmp n n' Z Y)) ∧ ∃ q, w' = w.drewN q := by
  have hn := h.len
  have hn' := h'.len
  have hcom := com_le Z Y (min n n')
  have H0 := cmp_both n n' Z Y
  have H1 := cmp_first n n' Z Y
  have H2 := cmp_second n n' Z Y
  have H3 := cmp_lss n n' Z Y
  have H4 := cmp_gtr n n' Z Y
  have hcall := rcommon_any w a a' b off n c b' off' n' c' Z Y h h'
  obtain ⟨K, hK⟩ : ∃ K, K = com Z Y (min n n') := ⟨_, rfl⟩
  rw [← hK] at hcom hcall H0 H1 H2 H3 H4
  clear hK
  have a0 : K ≤ n := by omega
  have a1 : K ≤ n' := by omega
  clear hcom
  by_cases e1 : K = n
  · by_cases e2 : K = n'
    · have r := H0 e1 e2
      clear H0 H1 H2 H3 H4
      rw [r]
      subst e1
      subst e2
      go_enter Tryz.func38, Tryz.ntmps38
      go_wp2_with (go_at_call 61; refine hcall.mono ?_; rintro e w' ⟨rfl, q, rfl⟩)
      go_ret
      exact ⟨rfl, _, rfl⟩
    · have r := H1 e1 e2
      clear H0 H1 H2 H3 H4
      rw [r]
      subst e1
      have e3 : ((K : Int) == (n' : Int)) = false := by simp; omega
      clear e2
      go_enter Tryz.func38, Tryz.ntmps38
      go_wp2_with (go_at_call 61; refine hcall.mono ?_; rintro e w' ⟨rfl, q, rfl⟩)
      go_ret
      exact ⟨rfl, _, rfl⟩
  · have e3 : ((K : Int) == (n : Int)) = false := by simp; omega
    by_cases e2 : K = n'
    · have r := H2 e1 e2
      clear H0 H1 H2 H3 H4
      rw [r]
      subst e2
      clear e1
      go_enter Tryz.func38, Tryz.ntmps38
      go_wp2_with (go_at_call 61; refine hcall.mono ?_; rintro e w' ⟨rfl, q, rfl⟩)
      go_ret
      exact ⟨rfl, _, rfl⟩
    · have e4 : ((K : Int) == (n' : Int)) = false := by simp; omega
      obtain rfl := h.at_ (by omega)
      obtain rfl := h'.at_ (by omega)
      have c1 := h.cell K (by omega)
      have c2 := h'.cell K (by omega)
      have i1 : (K : Int) < (n : Int) := by omega
      have i2 : (K : Int) < (n' : Int) := by omega
      by_cases e5 : Z K < Y K
      · have r := H3 e1 e2 e5
        clear H0 H1 H2 H3 H4 e1 e2 h h'
        rw [r]
        go_enter Tryz.func38, Tryz.ntmps38
        go_wp2_with (go_at_call 61; refine hcall.mono ?_; rintro e w' ⟨rfl, q, rfl⟩)
        go_quiet (fail)
        go_wp2
        go_ret
        exact ⟨rfl, _, World.drewN_drewN _ _ _⟩
      · have r := H4 e1 e2 e5
        clear H0 H1 H2 H3 H4 e1 e2 h h'
        rw [r]
        go_enter Tryz.func38, Tryz.ntmps38
        go_wp2_with (go_at_call 61; refine hcall.mono ?_; rintro e w' ⟨rfl, q, rfl⟩)
        go_quiet (fail)
        go_wp2
        go_ret
        exact ⟨rfl, _, World.drewN_drewN _ _ _⟩


set_option maxHeartbeats 400000 in
theorem same_any (w : World) (a a' : Option Addr) (b off n c b' off' n' c' : Nat) (Z Y : Nat → Int) (h : View w a b off n Z) (h' : View w a' b' off' n' Y) :
    Calls Tryz.prog 18 #[.slice a n c, .slice a' n' c'] w fun e w' => e = .returned (.bool (cmp n n' Z Y == 0)) ∧ ∃ q, w' = w.drewN q := by
  have hcall := rcompare_any w a a' b off n c b' off' n' c' Z Y h h'
  clear h h'
  go_enter Tryz.func18, Tryz.ntmps18
  go_wp2_with (go_at_call 38; refine hcall.mono ?_; rintro e w' ⟨rfl, q, rfl⟩)
  go_ret
  exact ⟨rfl, _, rfl⟩


theorem rsame_any (w : World) (a a' : Option Addr) (b off c b' off' c' : Nat) (s t : List Nat) (h : Vw w a b off s) (h' : Vw w a' b' off' t) :
    Calls Tryz.prog 18 #[.slice a s.length c, .slice a' t.length c'] w fun e w' => e = .returned (.bool (decide (s = t))) ∧ ∃ q, w' = w.drewN q := by
  have := same_any w a a' b off s.length c b' off' t.length c' _ _ h h'
  have e : (cmp s.length t.length (fun i => ((gd s i : Nat) : Int)) (fun i => ((gd t i : Nat) : Int)) == 0) = decide (s = t) := by
    rw [Bool.eq_iff_iff]
    simp only [beq_iff_eq, decide_eq_true_eq]
    rw [cmp_zero_iff]
    constructor
    · rintro ⟨e1, e2⟩
      exact ext_gd e1 (fun i hi => by have := e2 i hi; simp only at this; omega)
    · rintro rfl
      exact ⟨rfl, fun _ _ => rfl⟩
  rw [e] at this
  exact this
end Go.Proofs.YtepeolbbplodfaaGreatDoor

/-
  The program's writing from the end on: writeEnd, digitsOf, writeHead.
-/
namespace Go.Proofs.YtepeolbbplodfaaGreatDoor
open Go.RowKit

/-- a block of bytes -/
def Rm (w : World) (g : Nat) (t : List Nat) : Prop := w.heap[g]? = some (.cells (bv t).toArray 5 (0, 0))
theorem Rm.turn {w w' : World} {g : Nat} {t : List Nat} {F : Nat → Prop} (h : Rm w g t) (k : Turn F w w') (hg : ¬ F g) : Rm w' g t := by
  have hl : g < w.heap.size := (Array.getElem?_eq_some_iff.1 h).1
  exact (k.block g hl hg).trans h
theorem Rm.lt {w : World} {g : Nat} {t : List Nat} (h : Rm w g t) : g < w.heap.size := (Array.getElem?_eq_some_iff.1 h).1
theorem Rm.below {w w' : World} {g : Nat} {t : List Nat} (h : Rm w g t) (k : Below w.heap.size w w') : Rm w' g t := (k.block g h.lt).trans h
theorem bv_splice (t s : List Nat) (o : Nat) : bv (splice t o s) = splice (bv t) o (bv s) := by simp [splice, bv, List.map_take, List.map_drop]

set_option maxRecDepth 100000 in
set_option maxHeartbeats 800000 in
theorem writeEnd_any (w : World) (g L K N : Nat) (t : List Nat) (hr : Rm w g t) (hN : t.length = N) (hLN : L ≤ N) (hN63 : N ≤ 9223372036854775807) (a : Option Addr) (b off c : Nat) (s : List Nat) (hv : Vw w a b off s) (hL : L = K + s.length) :
    Calls Tryz.prog 164 #[.slice (some ⟨g, 0, none⟩) L N, .slice a s.length c] w fun e w' =>
      e = .returned (.slice (some ⟨g, 0, none⟩) K N) ∧ Rm w' g (splice t K s) ∧ Turn (fun i => i = g) w w' := by
  have j1 := slice_upto (some ⟨g, 0, none⟩) L N K (by omega)
  have j2 := slice_from (some ⟨g, 0, none⟩) L N K (by omega)
  have es : L - K = s.length := by omega
  rw [es] at j2
  have hs : s.length ≤ L := by omega
  have e1 : (L : Int) - (s.length : Int) = (K : Int) := by omega
  have hK : K ≤ 9223372036854775807 := by omega
  have HH : Hid (t.length = N ∧ L ≤ N ∧ L = K + s.length ∧ L - K = s.length ∧ Rm w g t ∧ Vw w a b off s) := ⟨hN, hLN, hL, es, hr, hv⟩
  have hsl : s.length ≤ 9223372036854775807 := by omega
  have hLl : L ≤ 9223372036854775807 := by omega
  obtain ⟨k, ek⟩ : ∃ k, k = s.length := ⟨_, rfl⟩
  have HK : Hid (k = s.length) := ek
  rw [← ek] at j2 e1 hsl hs ⊢
  clear hN hLN hL es hr hv ek
  by_cases h0 : k = 0
  · subst h0
    have eK : K = L := by have := HH.out.2.2.1; have := HK.out; omega
    subst eK
    generalize behind (some ⟨g, 0, none⟩) N K = bh at j2
    clear e1
    go_enter Tryz.func164, Tryz.ntmps164
    go_wp2_with (refine wpList_copy_nothing (by rfl) (.tmp 16) (.tmp 17) 33 33 (by rfl) 5 Tryz.underlying33 info5size _ _ _ _ _ _ (by rfl) (by rfl) (by simp) ?_)
    go_ret
    have e0 : s = [] := List.eq_nil_of_length_eq_zero HK.out.symm
    refine ⟨rfl, ?_, Turn.refl _ _⟩
    rw [e0]
    simpa [splice] using HH.out.2.2.2.2.1
  · have hb : behind (some ⟨g, 0, none⟩) N K = some ⟨g, K, none⟩ := by
      unfold behind
      rw [if_neg (by have := HH.out.1; have := HH.out.2.1; have := HH.out.2.2.1; have := HK.out; omega)]
      simp [add_flat]
    rw [hb] at j2
    have ha := HH.out.2.2.2.2.2.at_ (by have := HK.out; omega)
    subst ha
    have hsrc : ∀ j v, (bv s)[j]? = some v → w.cell? ((⟨b, off, none⟩ : Addr).add j) = some v := fun j v hj => by
      have hj2 : j < s.length := by
        have := (List.getElem?_eq_some_iff.1 hj).1
        rwa [bv_len] at this
      rw [bv_at hj2] at hj
      rw [Go.WideShapes.add_plain, HH.out.2.2.2.2.2.cell j hj2]
      exact hj
    have hone : ∀ v ∈ bv s, v.oneCell' = true := fun v hv => by
      obtain ⟨x, _, rfl⟩ := List.mem_map.1 hv
      rfl
    have hn1 : (bv s).length = Nat.min k k := by rw [bv_len, ← HK.out]; simp
    have hft : K + (bv s).length ≤ (bv t).toArray.size := by
      rw [bv_len, List.size_toArray, bv_len]
      have := HH.out.1
      have := HH.out.2.1
      have := HH.out.2.2.1
      omega
    have hg := HH.out.2.2.2.2.1
    unfold Rm at hg
    have H2 : Hid ((∀ j v, (bv s)[j]? = some v → w.cell? ((⟨b, off, none⟩ : Addr).add j) = some v) ∧ (∀ v ∈ bv s, v.oneCell' = true) ∧ (bv s).length = Nat.min k k ∧ K + (bv s).length ≤ (bv t).toArray.size ∧ w.heap[g]? = some (.cells (bv t).toArray 5 (0, 0))) := ⟨hsrc, hone, hn1, hft, hg⟩
    clear hsrc hone hn1 hft hg
    go_enter Tryz.func164, Tryz.ntmps164
    go_wp2_with (refine wpList_copy_own (by rfl) (.tmp 16) (.tmp 17) 33 33 (by rfl) 5 Tryz.underlying33 info5size g K k (N - K) ⟨b, off, none⟩ k c (by rfl) (by rfl) _ 5 H2.out.2.2.2.2 (bv s) H2.out.2.2.1 H2.out.1 H2.out.2.2.2.1 H2.out.2.1 ?_)
    go_ret
    refine ⟨rfl, ?_, Turn.setRow w g _ rfl⟩
    unfold Rm
    rw [bv_splice]
    simp only [splice]
    exact setRow_heap _ _ _ _ _ _ H2.out.2.2.2.2

theorem digs_lastd {n i : Nat} (h : i < (digs n).length) : gd (digs n) ((digs n).length - 1 - i) = n / 256 ^ i % 256 := by
  induction i generalizing n with
  | zero =>
    have hn : 0 < n := by
      rcases Nat.eq_zero_or_pos n with e | e
      · subst e; simp [digs_zero] at h
      · exact e
    rw [digs_pos hn]
    have := gd_app_r (s := digs (n / 256)) (t := [n % 256]) (i := 0)
    simp only [List.length_append, List.length_singleton, Nat.add_zero, Nat.add_sub_cancel, Nat.sub_zero] at this ⊢
    rw [this]
    simp [gd]
  | succ i ih =>
    have hn : 0 < n := by
      rcases Nat.eq_zero_or_pos n with e | e
      · subst e; simp [digs_zero] at h
      · exact e
    rw [digs_pos hn] at h ⊢
    simp only [List.length_append, List.length_singleton] at h ⊢
    have h' : i < (digs (n / 256)).length := by omega
    rw [show (digs (n / 256)).length + 1 - 1 - (i + 1) = (digs (n / 256)).length - 1 - i by omega, gd_app_l (by omega), ih h', Nat.div_div_eq_div_mul, Nat.pow_succ, Nat.mul_comm]
theorem bv_at' {s : List Nat} {i : Nat} (h : i < s.length) : (bv s)[i]? = some (.int .u8 ((gd s i : Nat) : Int)) := bv_at h

/-- bytes that a call has made: a block of their own -/
structure Made (w w' : World) (g : Nat) (t : List Nat) : Prop where
  room : Rm w' g t
  new : w.heap.size ≤ g
  below : Below w.heap.size w w'
theorem Rm.view {w : World} {g : Nat} {t : List Nat} (h : Rm w g t) (hb : ∀ x ∈ t, x < 256) (hl : t.length ≤ 281474976710656) : Vw w (some ⟨g, 0, none⟩) g 0 t :=
  ⟨fun _ => rfl, fun i hi => by
    rw [Nat.zero_add, cell_of_row _ _ _ _ 5 _ h]
    simpa using bv_at hi, fun i _ => by have := gd_lt hb i; omega, hl⟩
theorem Rm.row {w : World} {g : Nat} {t : List Nat} (h : Rm w g t) : w.rowIs g 5 t.length (fun i => .int .u8 ((gd t i : Nat) : Int)) :=
  ⟨_, h, by simp [bv_len], fun i hi => by simpa using bv_at hi⟩
theorem Rm.of_row {w : World} {g n : Nat} {f : Nat → Value} {t : List Nat} (h : w.rowIs g 5 n f) (hl : t.length = n) (hf : ∀ i, i < n → f i = .int .u8 ((gd t i : Nat) : Int)) : Rm w g t := by
  obtain ⟨c, hc, hs, hi⟩ := h
  unfold Rm
  have e : c = (bv t).toArray := by
    apply Array.ext_getElem?
    intro i
    by_cases q : i < n
    · rw [hi i q, hf i q]
      simpa using (bv_at (s := t) (by omega)).symm
    · rw [Array.getElem?_eq_none (by omega), Array.getElem?_eq_none (by simp [bv_len]; omega)]
  rw [← e]
  exact hc

set_option maxRecDepth 100000 in
set_option maxHeartbeats 800000 in
theorem digitsOf_any (w : World) (n : Nat) (hn : n < 18446744073709551616) :
    Calls Tryz.prog 167 #[.int .u64 n] w fun e w' => e = .returned (.slice (some ⟨w.heap.size, 0, none⟩) (digs n).length (digs n).length) ∧ Made w w' w.heap.size (digs n) := by
  have K := digitCount_any w n hn
  have HL : Hid ((digs n).length ≤ 8) := digs_len_le (by omega)
  obtain ⟨k, ek⟩ : ∃ k, k = (digs n).length := ⟨_, rfl⟩
  have HK : Hid (k = (digs n).length) := ek
  rw [← ek] at K ⊢
  have h8 : k ≤ 8 := by have := HL.out; omega
  clear ek
  have hmk := run_make_row' (P := Tryz.prog) 33 5 (.int .u8 0) 1 Tryz.underlying33 Tryz.info5 rfl .i64 .i64 k (by omega) (by omega)
  go_enter Tryz.func167, Tryz.ntmps167
  go_wp2_with (go_at_call 166; refine K.mono ?_; rintro e w' ⟨rfl, rfl⟩)
  go_loopg [0, 4] k (fun gg u i wr => ∃ (m j : Nat) (f : Nat → Nat), j ≤ k ∧ gg = k - j ∧ m = n / 256 ^ j ∧ u = .int .u64 m ∧ i = .int .i64 ((k : Int) - 1 - j) ∧ Below w'.heap.size w' wr ∧ wr.rowIs w'.heap.size 5 k (fun i => .int .u8 (f i : Nat)) ∧ ∀ i, i < j → f (k - 1 - i) = n / 256 ^ i % 256)
  case atStart =>
    refine ⟨n, 0, fun _ => 0, Nat.zero_le _, rfl, by simp, rfl, by simp, (Below.refl _ _).alloc (Nat.le_refl _) _, World.rowIs_made w' _ k 5, fun i hi => by omega⟩
  case round =>
    obtain ⟨m, j, f, hj, rfl, hm, rfl, ei, hb, hr, hd⟩ := hrel
    have HM : Hid (m = n / 256 ^ j) := hm
    have m64 : m ≤ n := by rw [hm]; exact Nat.div_le_self _ _
    clear hm
    by_cases h0 : j < k
    · obtain ⟨q, hq⟩ : ∃ q : Nat, (k : Int) - 1 - j = q := ⟨k - 1 - j, by omega⟩
      rw [hq] at ei
      subst ei
      have q1 : ¬ (q : Int) < 0 := by omega
      have q2 : q < k := by omega
      have g1 := hr.cell q2
      have g2 := hr.frozen q
      have HX : Hid (Below w'.heap.size w' (wr.setCell ⟨w'.heap.size, q, none⟩ (.int .u8 ((m : Int) % 256))) ∧ (wr.setCell ⟨w'.heap.size, q, none⟩ (.int .u8 ((m : Int) % 256))).rowIs w'.heap.size 5 k (fun i => .int .u8 ((if i = q then m % 256 else f i : Nat) : Int))) :=
        ⟨hb.setCell (Nat.le_refl _) _, (hr.set q _).congr (fun i _ => by
          by_cases e : i = q
          · rw [if_pos e, if_pos e]; simp
          · rw [if_neg e, if_neg e])⟩
      have HQ : Hid ((k : Int) - 1 - j = q) := hq
      have HD : Hid (∀ i, i < j → f (k - 1 - i) = n / 256 ^ i % 256) := hd
      clear hb hr hq hd
      go_wp2_with fail
      go_roundg (k - (j + 1))
      case measure => omega
      case rel =>
        have hq := HQ.out
        refine ⟨m / 256, j + 1, _, h0, rfl, ?_, by go_num, ?_, HX.out.1, HX.out.2, fun i hi => ?_⟩
        · rw [HM.out, Nat.div_div_eq_div_mul, Nat.pow_succ]
        · congr 1; omega
        · by_cases e : i = j
          · subst e
            rw [if_pos (by omega), HM.out]
          · rw [if_neg (by omega)]
            exact HD.out i (by omega)
    · have ej : j = k := by omega
      subst ej
      have e1 : (j : Int) - 1 - j = -1 := by omega
      rw [e1] at ei
      subst ei
      have HX : Hid (Made w' wr w'.heap.size (digs n)) := ⟨Rm.of_row hr HK.out.symm (fun i hi => by
        have h := hd (j - 1 - i) (by omega)
        have h2 := digs_lastd (n := n) (i := j - 1 - i) (by have := HK.out; omega)
        rw [← HK.out, show j - 1 - (j - 1 - i) = i by omega] at h2
        rw [show j - 1 - (j - 1 - i) = i by omega] at h
        rw [h, h2]), Nat.le_refl _, hb⟩
      clear hb hr hd
      go_wp2_with fail
      go_ret
      exact ⟨rfl, HX.out⟩
end Go.Proofs.YtepeolbbplodfaaGreatDoor

/-
  writeHead.
-/
namespace Go.Proofs.YtepeolbbplodfaaGreatDoor
open Go.RowKit

theorem splice_len {t s : List Nat} {K : Nat} (h : K + s.length ≤ t.length) : (splice t K s).length = t.length := length_splice t K s h
theorem splice_gd {t s : List Nat} {K i : Nat} (h : K + s.length ≤ t.length) : gd (splice t K s) i = if K ≤ i ∧ i < K + s.length then gd s (i - K) else gd t i := by
  unfold splice
  have lk : (t.take K).length = K := by simp; omega
  by_cases h1 : i < K
  · rw [gd_app_l (by omega), if_neg (by omega)]
    unfold gd
    rw [List.getD_eq_getElem?_getD, List.getD_eq_getElem?_getD, List.getElem?_take, if_pos h1]
  · obtain ⟨j, rfl⟩ : ∃ j, i = K + j := ⟨i - K, by omega⟩
    have e1 := gd_app_r (s := t.take K) (t := s ++ t.drop (K + s.length)) (i := j)
    rw [lk] at e1
    rw [e1]
    by_cases h2 : j < s.length
    · rw [gd_app_l h2, if_pos (by omega), Nat.add_sub_cancel_left]
    · obtain ⟨m, rfl⟩ : ∃ m, j = s.length + m := ⟨j - s.length, by omega⟩
      rw [gd_app_r, if_neg (by omega)]
      unfold gd
      rw [List.getD_eq_getElem?_getD, List.getD_eq_getElem?_getD, List.getElem?_drop, Nat.add_assoc]
theorem splice_splice {t s u : List Nat} {K L : Nat} (hL : L = K + u.length) (h : L + s.length ≤ t.length) : splice (splice t L s) K u = splice t K (u ++ s) := by
  have l1 : (splice t L s).length = t.length := splice_len h
  have l3 : (u ++ s).length = u.length + s.length := List.length_append
  apply ext_gd
  · rw [splice_len (by omega), l1, splice_len (by omega)]
  · intro i _
    rw [splice_gd (by omega), splice_gd (by omega), splice_gd (by omega), l3]
    by_cases h1 : K ≤ i ∧ i < K + u.length
    · rw [if_pos h1, if_pos (by omega), gd_app_l (by omega)]
    · rw [if_neg h1]
      by_cases h2 : L ≤ i ∧ i < L + s.length
      · rw [if_pos h2, if_pos (by omega)]
        obtain ⟨m, rfl⟩ : ∃ m, i = K + (u.length + m) := ⟨i - K - u.length, by omega⟩
        rw [Nat.add_sub_cancel_left, gd_app_r]
        congr 1
        omega
      · rw [if_neg h2, if_neg (by omega)]
theorem vw_one (w : World) (x : Nat) (hx : x < 256) : Vw (w.alloc (.cells #[.int .u8 (x : Int)] 5)) (some ⟨w.heap.size, 0, none⟩) w.heap.size 0 [x] := by
  refine ⟨fun _ => rfl, fun i hi => ?_, fun i hi => ?_, by simp⟩
  · have : i = 0 := by simp at hi; omega
    subst this
    rw [cell_of_row _ _ _ _ 5 _ (heap_alloc_new w _)]
    rfl
  · have : i = 0 := by simp at hi; omega
    subst this
    simp [gd]
    omega

set_option maxRecDepth 100000 in
set_option maxHeartbeats 800000 in
theorem writeHead_any (w : World) (g L K N n base : Nat) (t : List Nat) (hr : Rm w g t) (hN : t.length = N) (hLN : L ≤ N) (hN63 : N ≤ 9223372036854775807) (hn : n ≤ 1048576) (hb : base ≤ 192) (hL : L = K + (hdr base n).length) :
    Calls Tryz.prog 165 #[.slice (some ⟨g, 0, none⟩) L N, .int .i64 n, .int .u8 base] w fun e w' =>
      e = .returned (.slice (some ⟨g, 0, none⟩) K N) ∧ Rm w' g (splice t K (hdr base n)) ∧ Turn (fun i => i = g) w w' := by
  by_cases h : n < 56
  · have eh : hdr base n = [base + n] := by unfold hdr; rw [if_pos h]
    rw [eh] at hL ⊢
    have i1 : (n : Int) < 56 := by omega
    have e2 : (n : Int) % 256 = n := by omega
    have ec : ((base + n : Nat) : Int) = (base : Int) + n := by omega
    have t0 : Turn (fun i => i = g) w (w.alloc (.cells #[.int .u8 ((base : Int) + n)] 5)) := Turn.alloc w _
    have K1 := writeEnd_any (w.alloc (.cells #[.int .u8 ((base + n : Nat) : Int)] 5)) g L K N t (hr.below ((Below.refl _ _).alloc (Nat.le_refl _) _)) hN hLN hN63 _ _ _ 1 [base + n] (vw_one w (base + n) (by omega)) hL
    rw [ec] at K1
    have HT : Hid (Turn (fun i => i = g) w (w.alloc (.cells #[.int .u8 ((base : Int) + n)] 5))) := t0
    clear t0 hL hN hLN hr ec
    go_enter Tryz.func165, Tryz.ntmps165
    go_wp2_with (go_at_call 164; refine K1.mono ?_; rintro e w1 ⟨rfl, hr1, ht1⟩; have HR : Hid (Rm w1 g (splice t K [base + n]) ∧ Turn (fun i => i = g) w w1) := ⟨hr1, HT.out.trans ht1 (fun i q => Or.inl q)⟩; clear hr1 ht1)
    go_ret
    exact ⟨rfl, HR.out⟩
  · have eh : hdr base n = (base + 55 + (digs n).length) :: digs n := by unfold hdr; rw [if_neg h]
    have i1 : ¬ (n : Int) < 56 := by omega
    have l3 : (digs n).length ≤ 3 := digs_len_le (by omega)
    have K0 := digitsOf_any w n (by omega)
    have HH : Hid (Rm w g t ∧ t.length = N ∧ L ≤ N ∧ L = K + 1 + (digs n).length ∧ ∀ x ∈ digs n, x < 256) := ⟨hr, hN, hLN, by rw [hL, eh]; simp; omega, digs_lt n⟩
    have HE : Hid (hdr base n = (base + 55 + (digs n).length) :: digs n) := eh
    obtain ⟨k, ek⟩ : ∃ k, k = (digs n).length := ⟨_, rfl⟩
    have HKK : Hid (k = (digs n).length) := ek
    rw [← ek] at K0 l3
    clear hr hN hLN hL eh ek
    have hw : g < w.heap.size := HH.out.1.lt
    go_enter Tryz.func165, Tryz.ntmps165
    go_wp2_with (go_at_call 167; refine K0.mono ?_; rintro e w1 ⟨rfl, hm1⟩)
    have K1 := writeEnd_any w1 g L (K + 1) N t (HH.out.1.below hm1.below) HH.out.2.1 HH.out.2.2.1 hN63 _ _ _ k (digs n) (hm1.room.view HH.out.2.2.2.2 (by have := HKK.out; omega)) HH.out.2.2.2.1
    rw [← HKK.out] at K1
    have t1 : Turn (fun i => i = g) w w1 := Turn.of_below hm1.below
    have HT : Hid (Turn (fun i => i = g) w w1) := t1
    clear t1 hm1
    go_wp2_with (go_at_call_of 164 (Value.slice (some ⟨w.heap.size, 0, none⟩) k k); refine K1.mono ?_; rintro e w2 ⟨rfl, hr2, ht2⟩)
    have t2 : Turn (fun i => i = g) w w2 := HT.out.trans ht2 (fun i q => Or.inl q)
    have q1 := HH.out.2.1
    have q2 := HH.out.2.2.1
    have q3 := HH.out.2.2.2.1
    have q4 : (splice t (K + 1) (digs n)).length = N := by rw [splice_len (by omega)]; exact q1
    have q5 : K + 1 ≤ N := by omega
    have HQ : Hid (K + 1 + (digs n).length ≤ t.length) := by rw [← q3, q1]; exact q2
    clear q1 q2 q3
    have K2 := writeEnd_any (w2.alloc (.cells #[.int .u8 ((base + 55 + k : Nat) : Int)] 5)) g (K + 1) K N (splice t (K + 1) (digs n)) (hr2.below ((Below.refl _ _).alloc (Nat.le_refl _) _)) q4 q5 hN63 _ _ _ 1 [base + 55 + k] (vw_one w2 (base + 55 + k) (by omega)) (by simp)
    have ec : ((base + 55 + k : Nat) : Int) = (base : Int) + 56 - 1 + k := by omega
    rw [ec] at K2
    have e4 : (k : Int) % 256 = k := by omega
    have HT2 : Hid (Turn (fun i => i = g) w (w2.alloc (.cells #[.int .u8 ((base : Int) + 56 - 1 + k)] 5))) := t2.trans (Turn.alloc w2 _ (F := fun i => i = g)) (fun i q => Or.inl q)
    clear hr2 ht2 t2 HT ec q4 q5
    go_wp2_with (go_at_call 164; refine K2.mono ?_; rintro e w3 ⟨rfl, hr3, ht3⟩; have HR : Hid (Rm w3 g (splice t K (hdr base n)) ∧ Turn (fun i => i = g) w w3) := ⟨by rw [HE.out, ← HKK.out]; rw [splice_splice (by simp) HQ.out] at hr3; exact hr3, HT2.out.trans ht3 (fun i q => Or.inl q)⟩; clear hr3 ht3)
    go_ret
    exact ⟨rfl, HR.out⟩
end Go.Proofs.YtepeolbbplodfaaGreatDoor

/-
  How an item lies in memory.
-/
namespace Go.Proofs.YtepeolbbplodfaaGreatDoor
open Go.RowKit

/-- what may be asked of bytes in memory -/
class Rel (R : World → Value → List Nat → Prop) : Prop where
  keep : ∀ {w w' : World} {v : Value} {s : List Nat}, R w v s → Below w.heap.size w w' → R w' v s
  form : ∀ {w : World} {v : Value} {s : List Nat}, R w v s → ∃ a c, v = .slice a s.length c
/-- THE VALUE v IS A LIST OF THE BYTES s. -/
def Vb (w : World) (v : Value) (s : List Nat) : Prop := ∃ a b off c, v = .slice a s.length c ∧ Vw w a b off s ∧ s.length ≤ c ∧ (a = none → c = 0) ∧ s.length ≤ 140737488351232
instance : Rel Vb where
  keep := fun h k => by
    obtain ⟨a, b, off, c, rfl, hv, r⟩ := h
    exact ⟨a, b, off, c, rfl, hv.below k, r⟩
  form := fun h => by
    obtain ⟨a, b, off, c, rfl, hv, r⟩ := h
    exact ⟨a, c, rfl⟩

/-- AN ITEM IN MEMORY: vb its bytes, vi its items; R: what is asked of the bytes. -/
inductive Lies (R : World → Value → List Nat → Prop) (w : World) : It → Value → Value → Prop
  | mk {l : Bool} {b : List Nat} {xs : List It} {vb : Value} (a : Option Addr) (blk off c : Nat) (f g : Nat → Value) (hb : R w vb b) (ha : 0 < xs.length → a = some ⟨blk, off, none⟩) (hn : 56 * xs.length ≤ 140737488351232)
      (hc : ∀ i x, xs[i]? = some x → w.cell? ⟨blk, off + i * 3, none⟩ = some (.bool x.l) ∧ w.cell? ⟨blk, off + i * 3 + 1, none⟩ = some (f i) ∧ w.cell? ⟨blk, off + i * 3 + 2, none⟩ = some (g i))
      (hr : ∀ i x, xs[i]? = some x → Lies R w x (f i) (g i)) : Lies R w (.mk l b xs) vb (.slice a xs.length c)
theorem Lies.imp {R R' : World → Value → List Nat → Prop} {w w' : World} (hR : ∀ v s, R w v s → R' w' v s) (hc : ∀ p : Addr, p.block < w.heap.size → w'.cell? p = w.cell? p) : ∀ {x : It} {vb vi : Value}, Lies R w x vb vi → Lies R' w' x vb vi := by
  intro x vb vi h
  induction h with
  | mk a blk off c f g hb ha hn hcc hr ih =>
    refine .mk a blk off c f g (hR _ _ hb) ha hn (fun i x hx => ?_) (fun i x hx => ih i x hx)
    obtain ⟨h1, h2, h3⟩ := hcc i x hx
    have hl : blk < w.heap.size := World.block_lt_of_cell? _ _ h1
    exact ⟨(hc _ hl).trans h1, (hc _ hl).trans h2, (hc _ hl).trans h3⟩
theorem Lies.keep {R : World → Value → List Nat → Prop} [Rel R] {w w' : World} {x : It} {vb vi : Value} (h : Lies R w x vb vi) (k : Below w.heap.size w w') : Lies R w' x vb vi := h.imp (fun _ _ q => Rel.keep q k) (fun _ hp => k.cell hp)
theorem Lies.form {R : World → Value → List Nat → Prop} [Rel R] {w : World} {x : It} {vb vi : Value} (h : Lies R w x vb vi) : ∃ a n c a' n' c', vb = .slice a n c ∧ vi = .slice a' n' c' := by
  cases h with
  | mk a blk off c f g hb ha hn hc hr =>
    obtain ⟨a', c', e⟩ := Rel.form hb
    exact ⟨_, _, _, _, _, _, e, rfl⟩
/-- an item's value -/
abbrev iv (l : Bool) (vb vi : Value) : Value := .agg #[.bool l, vb, vi]
/-- its items -/
structure Its (R : World → Value → List Nat → Prop) (w : World) (xs : List It) (a : Option Addr) (blk off : Nat) : Prop where
  ha : 0 < xs.length → a = some ⟨blk, off, none⟩
  hn : 56 * xs.length ≤ 140737488351232
  get : ∀ i x, xs[i]? = some x → ∃ a1 n1 k1 a2 n2 k2, w.cell? ⟨blk, off + i * 3, none⟩ = some (.bool x.l) ∧ w.cell? ⟨blk, off + i * 3 + 1, none⟩ = some (.slice a1 n1 k1) ∧ w.cell? ⟨blk, off + i * 3 + 2, none⟩ = some (.slice a2 n2 k2) ∧ Lies R w x (.slice a1 n1 k1) (.slice a2 n2 k2)
theorem Lies.opened {R : World → Value → List Nat → Prop} [Rel R] {w : World} {l : Bool} {b : List Nat} {xs : List It} {vb vi : Value} (h : Lies R w (.mk l b xs) vb vi) : ∃ a' c' a c blk off, vb = .slice a' b.length c' ∧ vi = .slice a xs.length c ∧ R w vb b ∧ Its R w xs a blk off := by
  cases h with
  | mk a blk off c f g hb ha hn hc hr =>
    obtain ⟨a', c', e⟩ := Rel.form hb
    refine ⟨a', c', a, c, blk, off, e, rfl, hb, ha, hn, fun i x hx => ?_⟩
    obtain ⟨h1, h2, h3⟩ := hc i x hx
    obtain ⟨a1, n1, k1, a2, n2, k2, e1, e2⟩ := (hr i x hx).form
    refine ⟨a1, n1, k1, a2, n2, k2, h1, h2.trans (by rw [e1]), h3.trans (by rw [e2]), ?_⟩
    rw [← e1, ← e2]
    exact hr i x hx
theorem Its.shut {R : World → Value → List Nat → Prop} {w : World} {l : Bool} {b : List Nat} {xs : List It} {vb : Value} {a : Option Addr} {blk off c : Nat} (h : Its R w xs a blk off) (hb : R w vb b) : Lies R w (.mk l b xs) vb (.slice a xs.length c) := by
  have : ∀ i, ∃ q : Value × Value, ∀ x, xs[i]? = some x → w.cell? ⟨blk, off + i * 3, none⟩ = some (.bool x.l) ∧ w.cell? ⟨blk, off + i * 3 + 1, none⟩ = some q.1 ∧ w.cell? ⟨blk, off + i * 3 + 2, none⟩ = some q.2 ∧ Lies R w x q.1 q.2 := fun i => by
    cases hx : xs[i]? with
    | none => exact ⟨(.bool true, .bool true), fun x e => by cases e⟩
    | some y =>
      obtain ⟨a1, n1, k1, a2, n2, k2, h1, h2, h3, h4⟩ := h.get i y hx
      exact ⟨(.slice a1 n1 k1, .slice a2 n2 k2), fun x e => by cases e; exact ⟨h1, h2, h3, h4⟩⟩
  have hp := fun i => (this i).choose_spec
  exact .mk a blk off c (fun i => (this i).choose.1) (fun i => (this i).choose.2) hb h.ha h.hn (fun i x hx => ⟨(hp i x hx).1, (hp i x hx).2.1, (hp i x hx).2.2.1⟩) (fun i x hx => (hp i x hx).2.2.2)
theorem Its.keep {R : World → Value → List Nat → Prop} [Rel R] {w w' : World} {xs : List It} {a : Option Addr} {blk off : Nat} (h : Its R w xs a blk off) (k : Below w.heap.size w w') : Its R w' xs a blk off :=
  ⟨h.ha, h.hn, fun i x hx => by
    obtain ⟨a1, n1, k1, a2, n2, k2, h1, h2, h3, h4⟩ := h.get i x hx
    have hl : blk < w.heap.size := World.block_lt_of_cell? _ _ h1
    exact ⟨a1, n1, k1, a2, n2, k2, (k.cell hl).trans h1, (k.cell hl).trans h2, (k.cell hl).trans h3, h4.keep k⟩⟩
/-- the i-th of them, in a later world -/
theorem Its.nth {R : World → Value → List Nat → Prop} [Rel R] {w w' : World} {xs : List It} {a : Option Addr} {blk off : Nat} (h : Its R w xs a blk off) (k : Below w.heap.size w w') {i : Nat} (hi : i < xs.length) :
    a = some ⟨blk, off, none⟩ ∧ ∃ x a1 n1 k1 a2 n2 k2, xs[i]? = some x ∧ x ∈ xs ∧ w'.cell? ⟨blk, off + i * 3, none⟩ = some (.bool x.l) ∧ w'.cell? ⟨blk, off + i * 3 + 1, none⟩ = some (.slice a1 n1 k1) ∧ w'.cell? ⟨blk, off + i * 3 + 2, none⟩ = some (.slice a2 n2 k2) ∧ Lies R w' x (.slice a1 n1 k1) (.slice a2 n2 k2) := by
  obtain ⟨a1, n1, k1, a2, n2, k2, h1, h2, h3, h4⟩ := (h.keep k).get i _ (List.getElem?_eq_getElem hi)
  exact ⟨h.ha (by omega), _, a1, n1, k1, a2, n2, k2, List.getElem?_eq_getElem hi, List.getElem_mem hi, h1, h2, h3, h4⟩
theorem below_alloc (w : World) (o : Obj) : Below w.heap.size w (w.alloc o) := (Below.refl _ _).alloc (Nat.le_refl _) _

theorem box_keep {w w' : World} {l : Bool} {u v : Value} {t : TypeId} (h : Below (w.alloc (.cells #[.bool l, u, v] t)).heap.size (w.alloc (.cells #[.bool l, u, v] t)) w') :
    w'.cell? ⟨w.heap.size, 0, none⟩ = some (.bool l) ∧ w'.cell? ⟨w.heap.size, 1, none⟩ = some u ∧ w'.cell? ⟨w.heap.size, 2, none⟩ = some v := by
  have q : ∀ j, w'.cell? ⟨w.heap.size, j, none⟩ = #[.bool l, u, v][j]? := fun j => by
    rw [h.cell (p := ⟨w.heap.size, j, none⟩) (by simp), cell_of_row _ _ _ _ _ _ (heap_alloc_new w _)]
  exact ⟨q 0, q 1, q 2⟩

set_option maxRecDepth 100000 in
set_option maxHeartbeats 1600000 in
theorem deeper_any : ∀ (x : It) (w : World) (vb vi : Value) (m : Nat), Lies Vb w x vb vi → m ≤ 80 →
    Calls Tryz.prog 159 #[iv x.l vb vi, .int .i64 m] w fun e w' => e = .returned (.bool (decide (m < dp x))) ∧ Below w.heap.size w w' := by
  refine It.ind (fun l b xs ih => ?_)
  intro w vb vi m h hm
  obtain ⟨a', c', a, c, blk, off, rfl, rfl, -, hI⟩ := h.opened
  show Calls Tryz.prog 159 #[iv l _ _, _] w _
  generalize b.length = nb
  cases l with
  | false =>
    have e0 : decide (m < dp (.mk false b xs)) = false := by rw [dp_mk]; simp
    rw [e0]
    clear ih hI h
    go_enter Tryz.func159, Tryz.ntmps159
    go_wp2_with fail
    go_ret
    exact ⟨rfl, below_alloc _ _⟩
  | true =>
    have e0 : dp (.mk true b xs) = 1 + dpL xs := by rw [dp_mk]; simp
    rw [e0]
    by_cases h0 : m = 0
    · subst h0
      rw [decide_eq_true (by omega)]
      clear ih hI h e0
      go_enter Tryz.func159, Tryz.ntmps159
      go_wp2_with fail
      go_ret
      exact ⟨rfl, below_alloc _ _⟩
    · obtain ⟨n, en⟩ : ∃ n, n = xs.length := ⟨_, rfl⟩
      have HN : Hid (n = xs.length) := en
      have hn := hI.hn
      rw [← en] at hn ⊢
      have i0 : ¬ ((m : Int) = 0) := by omega
      have i0b : ((m : Int) == 0) = false := by simpa using i0
      have HI : Hid (Its Vb w xs a blk off) := hI
      clear hI e0 en h
      go_enter Tryz.func159, Tryz.ntmps159
      go_wp2_with fail
      go_loopg [15] n (fun gg k wr => ∃ (i : Nat), i ≤ n ∧ gg = n - i ∧ k = .int .i64 i ∧ Below w.heap.size w wr ∧ ∀ j x, j < i → xs[j]? = some x → ¬ m - 1 < dp x)
      case atStart => exact ⟨0, Nat.zero_le _, rfl, rfl, below_alloc _ _, fun j x hj => by omega⟩
      case round =>
        obtain ⟨i, hi, rfl, rfl, hb, hd⟩ := hrel
        by_cases hin : i < n
        · have i1 : (i : Int) < (n : Int) := by omega
          obtain ⟨rfl, x, a1, n1, k1, a2, n2, k2, hx, hxm, d0, d1, d2, hL⟩ := HI.out.nth hb (i := i) (by have := HN.out; omega)
          have K := ih x hxm _ _ _ (m - 1) (hL.keep (below_alloc _ (.cells #[.bool x.l, .slice a1 n1 k1, .slice a2 n2 k2] 191))) (by omega)
          rw [show (((m - 1 : Nat) : Int)) = (m : Int) - 1 by omega] at K
          have HX : Hid (xs[i]? = some x ∧ (∀ j x, j < i → xs[j]? = some x → ¬ m - 1 < dp x) ∧ Below w.heap.size w wr) := ⟨hx, hd, hb⟩
          have HI2 : Hid (∀ x ∈ xs, dp x ≤ dpL xs) := fun x h => dp_le_dpL h
          clear hx hxm hL hd hb ih
          by_cases hdp : m - 1 < dp x
          · rw [decide_eq_true hdp] at K
            go_wp2_with (go_at_call 159; refine K.mono ?_; rintro e w1 ⟨rfl, hb1⟩; have HB : Hid (Below w.heap.size w w1) := HX.out.2.2.trans (((below_alloc _ _).mono HX.out.2.2.size).trans (hb1.mono (by have := HX.out.2.2.size; simp; omega))); clear hb1)
            go_ret
            refine ⟨?_, HB.out⟩
            rw [decide_eq_true (by have := HI2.out x (List.mem_of_getElem? HX.out.1); omega)]
            rfl
          · rw [decide_eq_false hdp] at K
            go_wp2_with (go_at_call 159; refine K.mono ?_; rintro e w1 ⟨rfl, hb1⟩; have HB : Hid (Below w.heap.size w w1) := HX.out.2.2.trans (((below_alloc _ _).mono HX.out.2.2.size).trans (hb1.mono (by have := HX.out.2.2.size; simp; omega))); clear hb1)
            go_roundg (n - (i + 1))
            case measure => omega
            case rel =>
              refine ⟨i + 1, hin, rfl, by go_num, HB.out, fun j y hj hy => ?_⟩
              by_cases e : j = i
              · subst e
                have := hy.symm.trans HX.out.1
                cases this
                exact hdp
              · exact HX.out.2.1 j y (by omega) hy
        · have i1 : ¬ (i : Int) < (n : Int) := by omega
          have e1 : decide (m < 1 + dpL xs) = false := by
            apply decide_eq_false
            have : ∀ ys : List It, (∀ x ∈ ys, ¬ m - 1 < dp x) → dpL ys ≤ m - 1 := by
              intro ys
              induction ys with
              | nil => intro _; rw [dpL_nil]; omega
              | cons y ys ihy =>
                intro h
                rw [dpL_cons]
                have h1 := h y (by simp)
                have h2 := ihy (fun x hx => h x (by simp [hx]))
                omega
            have h3 := this xs (fun x hx => by
              obtain ⟨j, hj, rfl⟩ := List.getElem_of_mem hx
              exact hd j _ (by have := HN.out; omega) (List.getElem?_eq_getElem hj))
            omega
          have HE : Hid (decide (m < 1 + dpL xs) = false) := e1
          have HB : Hid (Below w.heap.size w wr) := hb
          clear hb hd ih e1
          go_wp2_with fail
          go_ret
          exact ⟨by rw [HE.out]; rfl, HB.out⟩
end Go.Proofs.YtepeolbbplodfaaGreatDoor

/-
  Giving up; a head read.
-/
namespace Go.Proofs.YtepeolbbplodfaaGreatDoor
open Go.RowKit

/-- a fault as it is raised -/
def flt (p c : Nat) : PanicEntry := { v := .iface 199 (.agg #[.int .i64 p, .int .i64 c]), recovered := false }

set_option maxRecDepth 100000 in
set_option maxHeartbeats 800000 in
theorem giveUp_any (w : World) (p c : Nat) : Calls Tryz.prog 134 #[.int .i64 p, .int .i64 c] w fun e w' => e = .panicked [flt p c] ∧ w' = w := by
  go_enter Tryz.func134, Tryz.ntmps134
  go_wp2_with fail
  exact ⟨rfl, rfl, rfl⟩

theorem slice_both (a : Option Addr) (n c l h : Nat) (h1 : l ≤ h) (h2 : h ≤ c) (w : World) : (Instr.slice 33 (.slice a n c) (some (.int .i64 l)) (some (.int .i64 h)) none).run Tryz.prog w = .ok (.slice (behind a c l) (h - l) (c - l)) w := by
  rw [run_slice_lh w 33 a n c (by rw [elem24]; exact Tryz.underlying33) .i64 .i64 l h (by omega) (by omega) (by omega), elem24, size5]
  simp only [Result.andThen, sliced, behind]
  simp
/-- the first e of the bytes s -/
structure Vp (w : World) (a : Option Addr) (b off e c : Nat) (s : List Nat) : Prop where
  view : View w a b off e (fun i => ((gd s i : Nat) : Int))
  len : e ≤ s.length
  cap : e ≤ c
  small : s.length ≤ 1048576
  ok : ∀ x ∈ s, x < 256
theorem Vp.keep {w w' : World} {a : Option Addr} {b off e c : Nat} {s : List Nat} (h : Vp w a b off e c s) (k : Below w.heap.size w w') : Vp w' a b off e c s := ⟨h.view.below k, h.len, h.cap, h.small, h.ok⟩
theorem Vp.upto {w : World} {a : Option Addr} {b off e c z : Nat} {s : List Nat} (h : Vp w a b off e c s) (hz : z ≤ e) : Vp w a b off z c s :=
  ⟨⟨fun q => h.view.at_ (by omega), fun i hi => h.view.cell i (by omega), fun i hi => h.view.bd i (by omega), by have := h.view.len; omega⟩, by have := h.len; omega, by have := h.cap; omega, h.small, h.ok⟩
theorem Vp.cut {w : World} {a : Option Addr} {b off e c l z : Nat} {s : List Nat} (h : Vp w a b off e c s) (h1 : l ≤ z) (h2 : z ≤ e) : Vw w (behind a c l) b (off + l) (cut s l z) := by
  have hl : (Go.Proofs.YtepeolbbplodfaaGreatDoor.cut s l z).length = z - l := cut_len (by have := h.len; omega)
  have hc := h.cap
  refine ⟨fun q => ?_, fun i hi => ?_, fun i hi => ?_, by rw [hl]; have := h.small; have := h.len; omega⟩
  · rw [hl] at q
    have := h.view.at_ (by omega)
    subst this
    unfold behind
    rw [if_neg (by omega)]
    simp [Go.WideShapes.add_plain]
  · rw [hl] at hi
    have := h.view.cell (l + i) (by omega)
    rw [cut_gd (by omega), Nat.add_assoc]
    exact this
  · rw [hl] at hi
    have := h.view.bd (l + i) (by omega)
    rw [cut_gd (by omega)]
    exact this
theorem Vp.cell {w : World} {a : Option Addr} {b off e c i : Nat} {s : List Nat} (h : Vp w a b off e c s) (hi : i < e) : a = some ⟨b, off, none⟩ ∧ w.cell? ⟨b, off + i, none⟩ = some (.int .u8 ((gd s i : Nat) : Int)) ∧ gd s i < 256 := ⟨h.view.at_ (by omega), h.view.cell i hi, gd_lt h.ok i⟩

/-- what a length's own bytes tell -/
def rdLen (s : List Nat) : Option Nat × Nat := if gd s 0 = 0 then (none, 52) else if 1048576 < num s then (none, 54) else if num s < 56 then (none, 52) else (some (num s), 0)

set_option maxRecDepth 100000 in
set_option maxHeartbeats 1600000 in
theorem readLength_any (w : World) (a : Option Addr) (b off c p : Nat) (s : List Nat) (hv : Vw w a b off s) (h0 : 0 < s.length) (h8 : s.length ≤ 8) :
    Calls Tryz.prog 152 #[.slice a s.length c, .int .i64 p] w fun e w' => w' = w ∧ match rdLen s with
      | (some n, _) => e = .returned (.int .i64 n)
      | (none, r) => e = .panicked [flt p r] := by
  obtain rfl := hv.at_ h0
  have c0 := hv.cell 0 h0
  rw [Nat.add_zero] at c0
  have K1 := numberOf_any w _ _ _ c s hv h8
  have KG := fun r => giveUp_any w p r
  have hx := gd_lt (vw_ok hv).2 0
  have hnum : num s < 18446744073709551616 := by
    have := num_lt (vw_ok hv).2
    have : 256 ^ s.length ≤ 256 ^ 8 := Nat.pow_le_pow_right (by decide) h8
    omega
  unfold rdLen
  by_cases hz : gd s 0 = 0
  · rw [if_pos hz]
    rw [hz] at c0
    generalize s.length = n at *
    clear hv hnum K1
    go_enter Tryz.func152, Tryz.ntmps152
    go_wp2_with (go_at_call 134; refine (KG 52).mono ?_; rintro e w' ⟨rfl, rfl⟩)
    exact ⟨rfl, rfl, rfl⟩
  · rw [if_neg hz]
    have hz' : ¬ ((gd s 0 : Nat) : Int) = 0 := by omega
    generalize hgx : gd s 0 = x at *
    clear hgx
    generalize num s = m at *
    have hl1 : 0 < s.length := h0
    generalize s.length = n at *
    clear hv
    by_cases h1 : 1048576 < m
    · rw [if_pos h1]
      have i1 : (1048576 : Int) < m := by omega
      go_enter Tryz.func152, Tryz.ntmps152
      go_wp2_with (first | (go_at_call 158; refine K1.mono ?_; rintro e w' ⟨rfl, rfl⟩) | (go_at_call 134; refine (KG 54).mono ?_; rintro e w' ⟨rfl, rfl⟩))
      exact ⟨rfl, rfl, rfl⟩
    · rw [if_neg h1]
      have i1 : ¬ (1048576 : Int) < m := by omega
      by_cases h2 : m < 56
      · rw [if_pos h2]
        have i2 : (m : Int) < 56 := by omega
        go_enter Tryz.func152, Tryz.ntmps152
        go_wp2_with (first | (go_at_call 158; refine K1.mono ?_; rintro e w' ⟨rfl, rfl⟩) | (go_at_call 134; refine (KG 52).mono ?_; rintro e w' ⟨rfl, rfl⟩))
        exact ⟨rfl, rfl, rfl⟩
      · rw [if_neg h2]
        have i2 : ¬ (m : Int) < 56 := by omega
        go_enter Tryz.func152, Tryz.ntmps152
        go_wp2_with (go_at_call 158; refine K1.mono ?_; rintro e w' ⟨rfl, rfl⟩)
        go_ret
        exact ⟨rfl, rfl⟩
end Go.Proofs.YtepeolbbplodfaaGreatDoor
