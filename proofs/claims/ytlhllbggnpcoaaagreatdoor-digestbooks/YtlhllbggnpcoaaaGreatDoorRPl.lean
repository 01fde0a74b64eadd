import Derived.Test.YtlhllbggnpcoaaaGreatDoorOpB
import Derived.Test.YtlhllbggnpcoaaaGreatDoorLex
import Derived.Test.YtlhllbggnpcoaaaGreatDoorFso
/-
  Plain facts on rows of bytes, told by the index: what two have in common, which stands first. No program.
-/
namespace Go.Proofs.YtlhllbggnpcoaaaGreatDoor

/-- how many of the first k are the same from the beginning on -/
def com (Z Y : Nat → Int) : Nat → Nat
  | 0 => 0
  | k + 1 => if com Z Y k = k ∧ Z k = Y k then k + 1 else com Z Y k

theorem com_le (Z Y : Nat → Int) (k : Nat) : com Z Y k ≤ k := by
  induction k with
  | zero => simp [com]
  | succ k ih => simp only [com]; split <;> omega

theorem com_same (Z Y : Nat → Int) (k i : Nat) (h : i < com Z Y k) : Z i = Y i := by
  induction k with
  | zero => simp [com] at h
  | succ k ih =>
    simp only [com] at h
    split at h
    · rename_i hk
      by_cases e : i = k
      · subst e; exact hk.2
      · exact ih (by omega)
    · exact ih h

theorem com_parts (Z Y : Nat → Int) (k : Nat) (h : com Z Y k < k) : Z (com Z Y k) ≠ Y (com Z Y k) := by
  induction k with
  | zero => simp at h
  | succ k ih =>
    simp only [com] at h ⊢
    split at h
    · omega
    · rename_i hk
      rw [if_neg hk]
      have := com_le Z Y k
      by_cases e : com Z Y k = k
      · rw [e]
        intro he
        exact hk ⟨e, he⟩
      · exact ih (by omega)

/-- the one number with these marks -/
theorem com_eq (Z Y : Nat → Int) (m k : Nat) (hk : k ≤ m) (hs : ∀ i, i < k → Z i = Y i) (hp : k < m → Z k ≠ Y k) : com Z Y m = k := by
  have h1 := com_le Z Y m
  by_cases hlt : com Z Y m < k
  · exact absurd (hs _ hlt) (com_parts Z Y m (by omega))
  · by_cases hgt : k < com Z Y m
    · exact absurd (com_same Z Y m k hgt) (hp (by omega))
    · omega

theorem com_stop (Z Y : Nat → Int) (m k : Nat) (hk : k < m) (hs : ∀ i, i < k → Z i = Y i) (hp : Z k ≠ Y k) : com Z Y m = k := com_eq Z Y m k (by omega) hs (fun _ => hp)
theorem com_all (Z Y : Nat → Int) (m : Nat) (hs : ∀ i, i < m → Z i = Y i) : com Z Y m = m := com_eq Z Y m m (by omega) hs (fun h => absurd h (by omega))

theorem com_symm (Z Y : Nat → Int) (m : Nat) : com Y Z m = com Z Y m := by
  apply com_eq
  · exact com_le _ _ _
  · intro i h; exact (com_same _ _ _ _ h).symm
  · intro h e; exact com_parts _ _ _ h e.symm

/-- which stands first: -1, 0, 1 -/
def cmp (n m : Nat) (Z Y : Nat → Int) : Int :=
  if com Z Y (min n m) = n ∧ com Z Y (min n m) = m then 0
  else if com Z Y (min n m) = n then -1
  else if com Z Y (min n m) = m then 1
  else if Z (com Z Y (min n m)) < Y (com Z Y (min n m)) then -1 else 1

theorem cmp_range (n m : Nat) (Z Y : Nat → Int) : cmp n m Z Y = -1 ∨ cmp n m Z Y = 0 ∨ cmp n m Z Y = 1 := by
  unfold cmp
  split
  · simp
  · split
    · simp
    · split
      · simp
      · split <;> simp

theorem cmp_bd (n m : Nat) (Z Y : Nat → Int) : -1 ≤ cmp n m Z Y ∧ cmp n m Z Y ≤ 1 := by
  rcases cmp_range n m Z Y with h | h | h <;> omega

/-- the marks of 'ahead' -/
def Ahead (n m : Nat) (Z Y : Nat → Int) : Prop := ∃ k, k ≤ n ∧ k ≤ m ∧ (∀ i, i < k → Z i = Y i) ∧ ((k = n ∧ k < m) ∨ (k < n ∧ k < m ∧ Z k < Y k))
/-- the marks of 'the same' -/
def Alike (n m : Nat) (Z Y : Nat → Int) : Prop := n = m ∧ ∀ i, i < n → Z i = Y i

theorem cmp_neg_iff (n m : Nat) (Z Y : Nat → Int) : cmp n m Z Y = -1 ↔ Ahead n m Z Y := by
  constructor
  · intro h
    have h1 := com_le Z Y (min n m)
    refine ⟨com Z Y (min n m), by omega, by omega, fun i hi => com_same _ _ _ _ hi, ?_⟩
    unfold cmp at h
    split at h
    · omega
    · split at h
      · left; omega
      · split at h
        · omega
        · split at h
          · right; refine ⟨by omega, by omega, by assumption⟩
          · omega
  · rintro ⟨k, h1, h2, h3, h4⟩
    have e : com Z Y (min n m) = k := by
      apply com_eq _ _ _ _ (by omega) h3
      intro hk he
      rcases h4 with h4 | ⟨_, _, h4⟩
      · omega
      · omega
    unfold cmp
    rw [e]
    rcases h4 with ⟨rfl, h4⟩ | ⟨h5, h6, h7⟩
    · rw [if_neg (by omega), if_pos rfl]
    · rw [if_neg (by omega), if_neg (by omega), if_neg (by omega), if_pos h7]

theorem cmp_zero_iff (n m : Nat) (Z Y : Nat → Int) : cmp n m Z Y = 0 ↔ Alike n m Z Y := by
  constructor
  · intro h
    unfold cmp at h
    split at h
    · rename_i e
      refine ⟨by omega, fun i hi => com_same Z Y (min n m) i (by omega)⟩
    · split at h
      · omega
      · split at h
        · omega
        · split at h <;> omega
  · rintro ⟨rfl, h⟩
    unfold cmp
    have e : com Z Y (min n n) = n := by rw [Nat.min_self]; exact com_all _ _ _ h
    rw [e, if_pos ⟨rfl, rfl⟩]

theorem ahead_anti (n m : Nat) (Z Y : Nat → Int) (h : Ahead n m Z Y) (h' : Ahead m n Y Z) : False := by
  have a := (cmp_neg_iff n m Z Y).2 h
  obtain ⟨k, h1, h2, h3, h4⟩ := h
  obtain ⟨j, g1, g2, g3, g4⟩ := h'
  rcases Nat.lt_trichotomy j k with e | e | e
  · have := h3 j e
    rcases g4 with g4 | ⟨_, _, g4⟩ <;> omega
  · subst e
    rcases g4 with g4 | ⟨_, _, g4⟩ <;> rcases h4 with h4 | ⟨_, _, h4⟩ <;> omega
  · have := g3 k e
    rcases h4 with h4 | ⟨_, _, h4⟩ <;> omega

/-- of two, one is ahead, or they are the same -/
theorem cmp_pos_of (n m : Nat) (Z Y : Nat → Int) (h : cmp n m Z Y = 1) : Ahead m n Y Z := by
  have h1 := com_le Z Y (min n m)
  refine ⟨com Z Y (min n m), by omega, by omega, fun i hi => (com_same _ _ _ _ hi).symm, ?_⟩
  have hp := com_parts Z Y (min n m)
  unfold cmp at h
  split at h
  · omega
  · split at h
    · omega
    · split at h
      · left; omega
      · split at h
        · omega
        · right; refine ⟨by omega, by omega, ?_⟩
          have := hp (by omega)
          omega

theorem cmp_anti (n m : Nat) (Z Y : Nat → Int) : cmp m n Y Z = -cmp n m Z Y := by
  rcases cmp_range n m Z Y with h | h | h
  · rcases cmp_range m n Y Z with g | g | g
    · exact absurd ((cmp_neg_iff _ _ _ _).1 g) (fun x => ahead_anti _ _ _ _ ((cmp_neg_iff _ _ _ _).1 h) x)
    · obtain ⟨rfl, g'⟩ := (cmp_zero_iff _ _ _ _).1 g
      have : cmp m m Z Y = 0 := (cmp_zero_iff _ _ _ _).2 ⟨rfl, fun i hi => (g' i hi).symm⟩
      omega
    · omega
  · obtain ⟨rfl, h'⟩ := (cmp_zero_iff _ _ _ _).1 h
    have : cmp n n Y Z = 0 := (cmp_zero_iff _ _ _ _).2 ⟨rfl, fun i hi => (h' i hi).symm⟩
    omega
  · have := (cmp_neg_iff _ _ _ _).2 (cmp_pos_of _ _ _ _ h)
    omega

theorem cmp_self (n : Nat) (Z : Nat → Int) : cmp n n Z Z = 0 := (cmp_zero_iff _ _ _ _).2 ⟨rfl, fun _ _ => rfl⟩

theorem ahead_trans (n m l : Nat) (Z Y X : Nat → Int) (h : Ahead n m Z Y) (g : Ahead m l Y X) : Ahead n l Z X := by
  obtain ⟨k, h1, h2, h3, h4⟩ := h
  obtain ⟨j, g1, g2, g3, g4⟩ := g
  rcases Nat.lt_trichotomy j k with e | e | e
  · refine ⟨j, by omega, by omega, fun i hi => (h3 i (by omega)).trans (g3 i hi), ?_⟩
    have := h3 j e
    rcases g4 with g4 | ⟨_, _, g4⟩
    · omega
    · right; omega
  · subst e
    refine ⟨j, by omega, by omega, fun i hi => (h3 i (by omega)).trans (g3 i hi), ?_⟩
    rcases h4 with h4 | ⟨_, _, h4⟩ <;> rcases g4 with g4 | ⟨_, _, g4⟩ <;> omega
  · refine ⟨k, by omega, by omega, fun i hi => (h3 i (by omega)).trans (g3 i (by omega)), ?_⟩
    have := g3 k e
    rcases h4 with h4 | ⟨_, _, h4⟩ <;> omega

theorem ahead_congr (n m : Nat) (Z Z' Y Y' : Nat → Int) (h : Ahead n m Z Y) (hz : ∀ i, i < n → Z i = Z' i) (hy : ∀ i, i < m → Y i = Y' i) : Ahead n m Z' Y' := by
  obtain ⟨k, h1, h2, h3, h4⟩ := h
  refine ⟨k, h1, h2, fun i hi => (hz i (by omega)).symm.trans ((h3 i hi).trans (hy i (by omega))), ?_⟩
  rcases h4 with h4 | ⟨h5, h6, h4⟩
  · left; exact h4
  · right; have := hz k h5; have := hy k h6; omega

theorem cmp_congr (n m : Nat) (Z Z' Y Y' : Nat → Int) (hz : ∀ i, i < n → Z i = Z' i) (hy : ∀ i, i < m → Y i = Y' i) : cmp n m Z Y = cmp n m Z' Y' := by
  rcases cmp_range n m Z Y with h | h | h
  · rw [h, (cmp_neg_iff n m Z' Y').2 (ahead_congr _ _ _ _ _ _ ((cmp_neg_iff _ _ _ _).1 h) hz hy)]
  · obtain ⟨rfl, h'⟩ := (cmp_zero_iff _ _ _ _).1 h
    rw [h, (cmp_zero_iff n n Z' Y').2 ⟨rfl, fun i hi => (hz i hi).symm.trans ((h' i hi).trans (hy i hi))⟩]
  · have a := (cmp_neg_iff _ _ _ _).2 (ahead_congr _ _ _ _ _ _ (cmp_pos_of _ _ _ _ h) hy hz)
    have b := cmp_anti m n Y' Z'
    omega

/-- never: not behind, not behind, and yet behind -/
theorem cmp_trans (n m l : Nat) (Z Y X : Nat → Int) (h : cmp n m Z Y ≤ 0) (g : cmp m l Y X ≤ 0) : cmp n l Z X ≤ 0 := by
  rcases cmp_range n m Z Y with a | a | a
  · rcases cmp_range m l Y X with b | b | b
    · have := (cmp_neg_iff _ _ _ _).2 (ahead_trans _ _ _ _ _ _ ((cmp_neg_iff _ _ _ _).1 a) ((cmp_neg_iff _ _ _ _).1 b))
      omega
    · obtain ⟨rfl, b'⟩ := (cmp_zero_iff _ _ _ _).1 b
      have := cmp_congr n m Z Z X Y (fun _ _ => rfl) (fun i hi => (b' i hi).symm)
      omega
    · omega
  · obtain ⟨rfl, a'⟩ := (cmp_zero_iff _ _ _ _).1 a
    have := cmp_congr n l Z Y X X a' (fun _ _ => rfl)
    omega
  · omega

end Go.Proofs.YtlhllbggnpcoaaaGreatDoor

/-
  cairnref01: Compare, Same, of lists.
-/
namespace Go.Proofs.YtlhllbggnpcoaaaGreatDoor
open Go.RowKit

theorem ret_int {k : IntKind} {a b : Int} (h : a = b) : Ending.returned (.int k a) = .returned (.int k b) := by rw [h]
theorem cmp_both (n m : Nat) (Z Y : Nat → Int) (h1 : com Z Y (min n m) = n) (h2 : com Z Y (min n m) = m) : cmp n m Z Y = 0 := by unfold cmp; rw [if_pos ⟨h1, h2⟩]
theorem cmp_first (n m : Nat) (Z Y : Nat → Int) (h1 : com Z Y (min n m) = n) (h2 : com Z Y (min n m) ≠ m) : cmp n m Z Y = -1 := by unfold cmp; rw [if_neg (fun h => h2 h.2), if_pos h1]
theorem cmp_second (n m : Nat) (Z Y : Nat → Int) (h1 : com Z Y (min n m) ≠ n) (h2 : com Z Y (min n m) = m) : cmp n m Z Y = 1 := by unfold cmp; rw [if_neg (fun h => h1 h.1), if_neg h1, if_pos h2]
theorem cmp_lss (n m : Nat) (Z Y : Nat → Int) (h1 : com Z Y (min n m) ≠ n) (h2 : com Z Y (min n m) ≠ m) (h3 : Z (com Z Y (min n m)) < Y (com Z Y (min n m))) : cmp n m Z Y = -1 := by unfold cmp; rw [if_neg (fun h => h1 h.1), if_neg h1, if_neg h2, if_pos h3]
theorem cmp_gtr (n m : Nat) (Z Y : Nat → Int) (h1 : com Z Y (min n m) ≠ n) (h2 : com Z Y (min n m) ≠ m) (h3 : ¬ Z (com Z Y (min n m)) < Y (com Z Y (min n m))) : cmp n m Z Y = 1 := by unfold cmp; rw [if_neg (fun h => h1 h.1), if_neg h1, if_neg h2, if_neg h3]

set_option maxHeartbeats 800000 in
theorem rcommon_any (w : World) (a a' : Option Addr) (b off n c b' off' n' c' : Nat) (Z Y : Nat → Int) (h : View w a b off n Z) (h' : View w a' b' off' n' Y) :
    Calls Tryz.prog 96 #[.slice a n c, .slice a' n' c'] w fun e w' => e = .returned (.int .i64 (com Z Y (min n n'))) ∧ ∃ q, w' = w.drewN q := by
  have hn := h.len
  have hn' := h'.len
  obtain ⟨M, hM⟩ : ∃ M, M = min n n' := ⟨_, rfl⟩
  rw [← hM]
  have m1 : M ≤ n := by omega
  have m2 : M ≤ n' := by omega
  have m3 : n ≤ M ∨ n' ≤ M := by omega
  have HM : Hid (n ≤ M ∨ n' ≤ M) := m3
  clear hM m3
  go_enter Tryz.func96, Tryz.ntmps96
  go_wp2
  go_loopg [5] M (fun g i wr => ∃ k : Nat, k ≤ M ∧ g = M - k ∧ i = .int .i64 k ∧ (∀ i, i < k → Z i = Y i) ∧ ∃ q, wr = w.drewN q)
  case atStart => exact ⟨0, Nat.zero_le _, rfl, rfl, fun i hi => absurd hi (by omega), 0, rfl⟩
  case round =>
    obtain ⟨k, hk, rfl, rfl, hs, q, rfl⟩ := hrel
    have HS : Hid (∀ i, i < k → Z i = Y i) := hs
    clear hs
    by_cases hkM : k < M
    · obtain rfl := h.at_ (by omega)
      obtain rfl := h'.at_ (by omega)
      have c1 := h.cell k (by omega)
      have c2 := h'.cell k (by omega)
      have i1 : (k : Int) < (n : Int) := by omega
      have i2 : (k : Int) < (n' : Int) := by omega
      clear h h'
      by_cases e : Z k = Y k
      · have e' : (Z k == Y k) = true := by simpa using e
        have HE : Hid (Z k = Y k) := e
        clear e
        go_wp2
        go_quiet (fail)
        go_wp2
        go_roundg (M - (k + 1))
        case measure => omega
        case rel => exact ⟨k + 1, by omega, rfl, by go_num, fun i hi => by by_cases ee : i = k; (subst ee; exact HE.out); exact HS.out i (by omega), _, rfl⟩
      · have e' : (Z k == Y k) = false := by simpa using e
        go_wp2
        go_quiet (fail)
        go_wp2
        go_ret
        exact ⟨ret_int (by rw [com_stop Z Y M k hkM HS.out e]), _, World.drewN_drewN _ _ _⟩
    · have : k = M := by omega
      subst this
      have fin := com_all Z Y k HS.out
      by_cases i1 : (k : Int) < (n : Int)
      · have i2 : decide (k < n') = false := by rcases HM.out with x | x <;> (simp; omega)
        clear h h'
        go_wp2
        go_quiet (fail)
        go_wp2
        go_ret
        exact ⟨ret_int (by rw [fin]), _, World.drewN_drewN _ _ _⟩
      · have i2 : decide (k < n) = false := by simp; omega
        clear h h' i1
        go_wp2
        go_quiet (fail)
        go_wp2
        go_ret
        exact ⟨ret_int (by rw [fin]), _, World.drewN_drewN _ _ _⟩

set_option maxHeartbeats 400000 in
theorem rcompare_any (w : World) (a a' : Option Addr) (b off n c b' off' n' c' : Nat) (Z Y : Nat → Int) (h : View w a b off n Z) (h' : View w a' b' off' n' Y) :
    Calls Tryz.prog 63 #[.slice a n c, .slice a' n' c'] w fun e w' => e = .returned (.int .i64 (cmp n n' Z Y)) ∧ ∃ q, w' = w.drewN q := by
  have hn := h.len
  have hn' := h'.len
  have hcom := com_le Z Y (min n n')
  have H0 := cmp_both n n' Z Y
  have H1 := cmp_first n n' Z Y
  have H2 := cmp_second n n' Z Y
  have H3 := cmp_lss n n' Z Y
  have H4 := cmp_gtr n n' Z Y
  have hcall := rcommon_any w a a' b off n c b' off' n' c' Z Y h h'
  obtain ⟨K, hK⟩ : ∃ K, K = com Z Y (min n n') := ⟨_, rfl⟩
  rw [← hK] at hcom hcall H0 H1 H2 H3 H4
  clear hK
  have a0 : K ≤ n := by omega
  have a1 : K ≤ n' := by omega
  clear hcom
  by_cases e1 : K = n
  · by_cases e2 : K = n'
    · have r := H0 e1 e2
      clear H0 H1 H2 H3 H4
      rw [r]
      subst e1
      subst e2
      go_enter Tryz.func63, Tryz.ntmps63
      go_wp2_with (go_at_call 96; refine hcall.mono ?_; rintro e w' ⟨rfl, q, rfl⟩)
      go_ret
      exact ⟨rfl, _, rfl⟩
    · have r := H1 e1 e2
      clear H0 H1 H2 H3 H4
      rw [r]
      subst e1
      have e3 : ((K : Int) == (n' : Int)) = false := by simp; omega
      clear e2
      go_enter Tryz.func63, Tryz.ntmps63
      go_wp2_with (go_at_call 96; refine hcall.mono ?_; rintro e w' ⟨rfl, q, rfl⟩)
      go_ret
      exact ⟨rfl, _, rfl⟩
  · have e3 : ((K : Int) == (n : Int)) = false := by simp; omega
    by_cases e2 : K = n'
    · have r := H2 e1 e2
      clear H0 H1 H2 H3 H4
      rw [r]
      subst e2
      clear e1
      go_enter Tryz.func63, Tryz.ntmps63
      go_wp2_with (go_at_call 96; refine hcall.mono ?_; rintro e w' ⟨rfl, q, rfl⟩)
      go_ret
      exact ⟨rfl, _, rfl⟩
    · have e4 : ((K : Int) == (n' : Int)) = false := by simp; omega
      obtain rfl := h.at_ (by omega)
      obtain rfl := h'.at_ (by omega)
      have c1 := h.cell K (by omega)
      have c2 := h'.cell K (by omega)
      have i1 : (K : Int) < (n : Int) := by omega
      have i2 : (K : Int) < (n' : Int) := by omega
      by_cases e5 : Z K < Y K
      · have r := H3 e1 e2 e5
        clear H0 H1 H2 H3 H4 e1 e2 h h'
        rw [r]
        go_enter Tryz.func63, Tryz.ntmps63
        go_wp2_with (go_at_call 96; refine hcall.mono ?_; rintro e w' ⟨rfl, q, rfl⟩)
        go_quiet (fail)
        go_wp2
        go_ret
        exact ⟨rfl, _, World.drewN_drewN _ _ _⟩
      · have r := H4 e1 e2 e5
        clear H0 H1 H2 H3 H4 e1 e2 h h'
        rw [r]
        go_enter Tryz.func63, Tryz.ntmps63
        go_wp2_with (go_at_call 96; refine hcall.mono ?_; rintro e w' ⟨rfl, q, rfl⟩)
        go_quiet (fail)
        go_wp2
        go_ret
        exact ⟨rfl, _, World.drewN_drewN _ _ _⟩


set_option maxHeartbeats 400000 in
theorem same_any (w : World) (a a' : Option Addr) (b off n c b' off' n' c' : Nat) (Z Y : Nat → Int) (h : View w a b off n Z) (h' : View w a' b' off' n' Y) :
    Calls Tryz.prog 38 #[.slice a n c, .slice a' n' c'] w fun e w' => e = .returned (.bool (cmp n n' Z Y == 0)) ∧ ∃ q, w' = w.drewN q := by
  have hcall := rcompare_any w a a' b off n c b' off' n' c' Z Y h h'
  clear h h'
  go_enter Tryz.func38, Tryz.ntmps38
  go_wp2_with (go_at_call 63; refine hcall.mono ?_; rintro e w' ⟨rfl, q, rfl⟩)
  go_ret
  exact ⟨rfl, _, rfl⟩


/-- how much of the beginning two lists share -/
def pre : List Nat → List Nat → Nat
  | [], _ => 0
  | _ :: _, [] => 0
  | a :: x, b :: y => if a = b then pre x y + 1 else 0
theorem gd_cons_zero (a : Nat) (x : List Nat) : gd (a :: x) 0 = a := rfl
theorem gd_cons_succ (a : Nat) (x : List Nat) (i : Nat) : gd (a :: x) (i + 1) = gd x i := rfl
theorem pre_facts : ∀ s t : List Nat, pre s t ≤ s.length ∧ pre s t ≤ t.length ∧ (∀ i, i < pre s t → gd s i = gd t i) ∧ (pre s t < s.length → pre s t < t.length → gd s (pre s t) ≠ gd t (pre s t)) ∧
    cmpL s t = if pre s t = s.length ∧ pre s t = t.length then 0 else if pre s t = s.length then -1 else if pre s t = t.length then 1 else if gd s (pre s t) < gd t (pre s t) then -1 else 1
  | [], [] => by simp [pre, cmpL]
  | [], b :: y => by simp [pre, cmpL]
  | a :: x, [] => by simp [pre, cmpL]
  | a :: x, b :: y => by
    obtain ⟨h1, h2, h3, h4, h5⟩ := pre_facts x y
    by_cases e : a = b
    · subst e
      have ep : pre (a :: x) (a :: y) = pre x y + 1 := by simp [pre]
      rw [ep]
      refine ⟨by simpa using h1, by simpa using h2, fun i hi => ?_, fun k1 k2 => ?_, ?_⟩
      · cases i with
        | zero => rfl
        | succ i => rw [gd_cons_succ, gd_cons_succ]; exact h3 i (by omega)
      · rw [gd_cons_succ, gd_cons_succ]; exact h4 (by simpa using k1) (by simpa using k2)
      · simp only [cmpL, Nat.lt_irrefl, if_false, List.length_cons, Nat.add_right_cancel_iff, gd_cons_succ]
        exact h5
    · have ep : pre (a :: x) (b :: y) = 0 := by simp [pre, e]
      rw [ep]
      refine ⟨Nat.zero_le _, Nat.zero_le _, fun i hi => absurd hi (by omega), fun _ _ => e, ?_⟩
      simp only [cmpL, List.length_cons, gd_cons_zero]
      by_cases l : a < b
      · simp [l]
      · have : b < a := by omega
        simp [l, this]
theorem com_pre (s t : List Nat) : com (fun i => ((gd s i : Nat) : Int)) (fun i => ((gd t i : Nat) : Int)) (min s.length t.length) = pre s t := by
  obtain ⟨h1, h2, h3, h4, _⟩ := pre_facts s t
  refine com_eq _ _ _ _ (by omega) (fun i hi => by rw [h3 i hi]) (fun hl e => h4 (by omega) (by omega) (by omega))
theorem cmp_list (s t : List Nat) : cmp s.length t.length (fun i => ((gd s i : Nat) : Int)) (fun i => ((gd t i : Nat) : Int)) = cmpL s t := by
  obtain ⟨_, _, _, _, h5⟩ := pre_facts s t
  unfold cmp
  rw [com_pre, h5]
  split
  · rfl
  · split
    · rfl
    · split
      · rfl
      · by_cases q : gd s (pre s t) < gd t (pre s t)
        · rw [if_pos q, if_pos (by show ((gd s (pre s t) : Nat) : Int) < ((gd t (pre s t) : Nat) : Int); omega)]
        · rw [if_neg q, if_neg (by show ¬ ((gd s (pre s t) : Nat) : Int) < ((gd t (pre s t) : Nat) : Int); omega)]
theorem rcmp_any (w : World) (a a' : Option Addr) (b off c b' off' c' : Nat) (s t : List Nat) (h : Vw w a b off s) (h' : Vw w a' b' off' t) :
    Calls Tryz.prog 63 #[.slice a s.length c, .slice a' t.length c'] w fun e w' => e = .returned (.int .i64 (cmpL s t)) ∧ ∃ q, w' = w.drewN q := by
  have := rcompare_any w a a' b off s.length c b' off' t.length c' _ _ h h'
  rw [cmp_list] at this
  exact this
theorem rsame_any (w : World) (a a' : Option Addr) (b off c b' off' c' : Nat) (s t : List Nat) (h : Vw w a b off s) (h' : Vw w a' b' off' t) :
    Calls Tryz.prog 38 #[.slice a s.length c, .slice a' t.length c'] w fun e w' => e = .returned (.bool (decide (s = t))) ∧ ∃ q, w' = w.drewN q := by
  have := same_any w a a' b off s.length c b' off' t.length c' _ _ h h'
  rw [cmp_list] at this
  have e : (cmpL s t == 0) = decide (s = t) := by
    rw [Bool.eq_iff_iff]
    simp only [beq_iff_eq, decide_eq_true_eq]
    exact cmpL_zero
  rw [e] at this
  exact this
end Go.Proofs.YtlhllbggnpcoaaaGreatDoor

/-
  The reference's notes in memory.
-/
namespace Go.Proofs.YtlhllbggnpcoaaaGreatDoor
open Go.RowKit Go.Sort Go.Maps

instance : Inhabited FG := ⟨⟨nilS, [], []⟩⟩
/-- what was noted, as the reference keeps it: all that is read lies in F's blocks -/
structure NL (w : World) (F : Nat → Prop) (v : Value) (Q : List FG) : Prop where
  own : w.ownsRow 0 105 33 v Q.length (Q.flatMap FG.enc)
  foot : ∀ g, v.ownBlock = some g → F g
  str : ∀ q ∈ Q, Str w F q.u q.s
  key : ∀ q ∈ Q, IsH q.k
theorem NL.nil (w : World) (F : Nat → Prop) : NL w F (.slice none 0 0) [] := ⟨World.ownsRow_nil _ _ _ _, fun g hg => by simp [Value.ownBlock] at hg, fun q hq => by simp at hq, fun q hq => by simp at hq⟩
theorem NL.turn {w w' : World} {F G : Nat → Prop} {v : Value} {Q : List FG} (h : NL w F v Q) (t : Turn G w w') (hd : ∀ i, F i → ¬ G i) : NL w' F v Q :=
  ⟨own_turn h.own t (fun g hg => hd g (h.foot g hg)), h.foot, fun q hq => (h.str q hq).turn t (fun i hi _ => hd i hi), h.key⟩
theorem NL.below {w w' : World} {F : Nat → Prop} {v : Value} {Q : List FG} (h : NL w F v Q) (hb : Below w.heap.size w w') : NL w' F v Q := h.turn (Turn.of_below hb (F := fun _ => False)) (fun _ _ q => q)
theorem NL.mono {w : World} {F F' : Nat → Prop} {v : Value} {Q : List FG} (h : NL w F v Q) (hf : ∀ i, F i → F' i) : NL w F' v Q :=
  ⟨h.own, fun g hg => hf g (h.foot g hg), fun q hq => ⟨(h.str q hq).own, fun g hg => hf g ((h.str q hq).foot g hg), (h.str q hq).ok⟩, h.key⟩
theorem encF_len {q : FG} (h : IsH q.k) : q.enc.length = 33 := by unfold FG.enc; rw [List.length_cons, bv_len, h.1]
theorem flatF_get : ∀ {Q : List FG} (_ : ∀ q ∈ Q, IsH q.k) (i : Nat) (hi : i < Q.length) (j : Nat) (_ : j < 33), (Q.flatMap FG.enc)[i * 33 + j]? = (Q[i].enc)[j]?
  | q :: Q, hk, 0, _, j, hj => by
    rw [List.flatMap_cons, List.getElem?_append_left (by rw [encF_len (hk q (by simp))]; omega)]
    simp
  | q :: Q, hk, i + 1, hi, j, hj => by
    rw [List.flatMap_cons, List.getElem?_append_right (by rw [encF_len (hk q (by simp))]; omega), encF_len (hk q (by simp)), show (i + 1) * 33 + j - 33 = i * 33 + j by omega]
    exact flatF_get (fun x hx => hk x (by simp [hx])) i (by simpa using hi) j hj
/-- one of them, as it lies -/
theorem NL.at_ {w : World} {F : Nat → Prop} {v : Value} {Q : List FG} (h : NL w F v Q) (hQ : 0 < Q.length) : ∃ g cap, v = .slice (some ⟨g, 0, none⟩) Q.length cap ∧ F g ∧ Q.length ≤ cap ∧ ∀ i (hi : i < Q.length), (∃ p gp c, w.cell? ⟨g, i * 33, none⟩ = some (.slice p Q[i].s.length c) ∧ Vw w p gp 0 Q[i].s) ∧ w.rangeAt g (i * 33 + 1) (bv Q[i].k) := by
  have ho := h.own
  rcases ho.2 with ⟨_, h0⟩ | ⟨g, cap, cur, rfl, hb, hgg, hn, hm, hs, ht⟩
  · omega
  · refine ⟨g, cap, rfl, h.foot g rfl, hn, fun i hi => ?_⟩
    have hm' : Q[i] ∈ Q := List.getElem_mem hi
    have ce : ∀ j u, (Q[i].enc)[j]? = some u → w.cell? ⟨g, i * 33 + j, none⟩ = some u := fun j u hu => by
      have hj : j < 33 := by
        obtain ⟨hl, _⟩ := List.getElem?_eq_some_iff.1 hu
        rw [encF_len (h.key _ hm')] at hl
        exact hl
      have hc := ho.cells (g := g) rfl (i * 33 + j) u ((flatF_get h.key i hi j hj).trans hu)
      rw [← hc]
      congr 1
      unfold Addr.add
      split <;> simp_all
    obtain ⟨p, gp, c, e, _, hv, _⟩ := (h.str _ hm').view
    refine ⟨⟨p, gp, c, ?_, hv⟩, fun j u hu => ?_⟩
    · have := ce 0 Q[i].u rfl
      rw [Nat.add_zero] at this
      rw [this, e]
    · have := ce (j + 1) u (by unfold FG.enc; rw [List.getElem?_cons_succ]; exact hu)
      rw [show i * 33 + 1 + j = i * 33 + (j + 1) by omega]
      exact this
theorem pos_here {t : List Nat} {L : List (List Nat)} (hr : Ris L) {m : Nat} (hm : m < L.length) (e : L[m] = t) : pos t L = m := by
  have h1 : ¬ m < pos t L := fun q => by
    have := (pos_get hr m hm).1 q
    rw [e] at this
    exact lt_irrefl _ this
  have h2 : ∀ i, i < m → i < pos t L := fun i hi => (pos_get hr i (by omega)).2 (by
    rw [← e]
    exact List.pairwise_iff_getElem.1 hr i m (by omega) hm hi)
  by_cases z : m = 0
  · omega
  · have := h2 (m - 1) (by omega)
    omega
end Go.Proofs.YtlhllbggnpcoaaaGreatDoor

/-
  cairnref04.place.
-/
namespace Go.Proofs.YtlhllbggnpcoaaaGreatDoor
open Go.RowKit Go.Sort Go.Maps

set_option maxRecDepth 100000 in
set_option maxHeartbeats 1600000 in
theorem rplace_any (w : World) (F : Nat → Prop) (v : Value) (Q : List FG) (h : NL w F v Q) (hr : Ris (Q.map FG.s)) (hn : Q.length ≤ 549755813888) (a : Option Addr) (b o c : Nat) (t : List Nat) (ht : Vw w a b o t) :
    Calls Tryz.prog 67 #[v, .slice a t.length c] w fun e w' => e = .returned (.tuple #[.int .i64 (pos t (Q.map FG.s) : Nat), .bool (decide (t ∈ Q.map FG.s))]) ∧ ∃ q, w' = w.drewN q := by
  obtain ⟨av, cv, ev⟩ : ∃ av cv, v = .slice av Q.length cv := by
    rcases h.own.2 with ⟨rfl, h0⟩ | ⟨g, cap, cur, rfl, _⟩
    · exact ⟨none, 0, by rw [h0]⟩
    · exact ⟨_, _, rfl⟩
  subst ev
  have HN : Hid (NL w F (.slice av Q.length cv) Q) := h
  have HR : Hid (Ris (Q.map FG.s)) := hr
  have HT : Hid (Vw w a b o t) := ht
  have HP : Hid (pos t (Q.map FG.s) ≤ Q.length) := by have := pos_le t (Q.map FG.s); rw [List.length_map] at this; exact this
  have HI : Hid (t ∈ Q.map FG.s → pos t (Q.map FG.s) < Q.length) := fun q => by obtain ⟨z, _⟩ := (pos_found HR.out).1 q; rw [List.length_map] at z; exact z
  obtain ⟨pp, epp⟩ : ∃ pp, pp = pos t (Q.map FG.s) := ⟨_, rfl⟩
  obtain ⟨th, eth⟩ : ∃ th, th = decide (t ∈ Q.map FG.s) := ⟨_, rfl⟩
  rw [← epp, ← eth]
  have HE : Hid (pp = pos t (Q.map FG.s) ∧ th = decide (t ∈ Q.map FG.s)) := ⟨epp, eth⟩
  clear h hr ht epp eth
  go_enter Tryz.func67, Tryz.ntmps67
  go_wp2_with fail
  go_loopg [6, 7] Q.length (fun g lo hi wr => ∃ l h : Nat, l ≤ h ∧ l ≤ pos t (Q.map FG.s) ∧ pos t (Q.map FG.s) ≤ h ∧ h ≤ Q.length ∧ (t ∈ Q.map FG.s → pos t (Q.map FG.s) < h) ∧ g = h - l ∧ lo = .int .i64 l ∧ hi = .int .i64 h ∧ ∃ q, wr = w.drewN q)
  case atStart => exact ⟨0, Q.length, Nat.zero_le _, Nat.zero_le _, HP.out, Nat.le_refl _, HI.out, rfl, rfl, rfl, 0, rfl⟩
  case round =>
    obtain ⟨l, h, hlh, h1, h2, h3, h4, rfl, rfl, rfl, q, rfl⟩ := hrel
    have HJ : Hid (l ≤ pos t (Q.map FG.s) ∧ pos t (Q.map FG.s) ≤ h ∧ (t ∈ Q.map FG.s → pos t (Q.map FG.s) < h)) := ⟨h1, h2, h4⟩
    clear h1 h2 h4
    by_cases hl : l < h
    · obtain ⟨m, hm⟩ : ∃ m, m = (l + h) / 2 := ⟨_, rfl⟩
      have e1 : ((l : Int) + (h : Int)) / 2 = (m : Int) := by omega
      have e2 : ((l : Int) + (h : Int)).tdiv 2 = (m : Int) := by rw [Int.tdiv_eq_ediv_of_nonneg (by omega)]; exact e1
      have lm : l ≤ m ∧ m < h := by omega
      have mq : m < Q.length := by omega
      have HM : Hid (m < Q.length) := mq
      obtain ⟨g, cap, ev, _, _, cells⟩ := HN.out.at_ (by omega)
      injection ev with ev1 ev2 ev3
      subst ev1
      subst ev3
      obtain ⟨⟨p, gp, cp, ce, vw⟩, _⟩ := cells m mq
      have b0 : Below w.heap.size w (w.drewN q) := below_drewN (Below.refl _ _) q
      have ce' : (w.drewN q).cell? ⟨g, m * 33, none⟩ = some (.slice p Q[m].s.length cp) := (b0.cell (p := ⟨g, m * 33, none⟩) (World.block_lt_of_cell? w ⟨g, m * 33, none⟩ ce)).trans ce
      have cm := rcmp_any (w.drewN q) p a gp 0 cp b o c Q[m].s t (vw.below b0) (HT.out.below b0)
      have HG : Hid (∀ (z : m < (Q.map FG.s).length), (Q.map FG.s)[m] = Q[m].s) := fun z => List.getElem_map FG.s
      generalize Q[m].s = s at ce' cm HG
      have i1 : (l : Int) < (h : Int) := by omega
      have i2 : (m : Int) < (Q.length : Int) := by omega
      clear ce vw cells ev2 hm
      have HL : Hid (m < (Q.map FG.s).length) := by rw [List.length_map]; exact mq
      rcases lt_tri s t with d | d | d
      · have cm' := cm
        rw [cmpL_lt d] at cm
        have HD : Hid (m < pos t (Q.map FG.s)) := (pos_get HR.out m HL.out).2 (by rw [HG.out HL.out]; exact d)
        clear cm' d
        go_wp2_with fail
        refine cm.mono ?_
        rintro _ w2 ⟨rfl, q2, rfl⟩
        clear ce'
        go_wp2_with fail
        go_roundg (h - (m + 1))
        case measure => omega
        case rel => exact ⟨m + 1, h, by omega, HD.out, HJ.out.2.1, h3, HJ.out.2.2, rfl, by go_num, rfl, q + q2, rfl⟩
      · subst d
        rw [cmpL_self] at cm
        have HD : Hid (pos s (Q.map FG.s) = m ∧ s ∈ Q.map FG.s) := ⟨pos_here HR.out HL.out (HG.out HL.out), by have := List.getElem_mem HL.out; rw [HG.out HL.out] at this; exact this⟩
        go_wp2_with fail
        refine cm.mono ?_
        rintro _ w2 ⟨rfl, q2, rfl⟩
        clear ce'
        go_wp2_with fail
        go_ret2
        have e8 : pp = m := HE.out.1.trans HD.out.1
        have e9 : th = true := HE.out.2.trans (decide_eq_true HD.out.2)
        subst e8
        subst e9
        exact ⟨rfl, q + q2, rfl⟩
      · rw [cmpL_gt d] at cm
        have nm : ¬ m < pos t (Q.map FG.s) := fun z => by
          have := (pos_get HR.out m HL.out).1 z
          rw [HG.out HL.out] at this
          exact lt_asymm this d
        have HD : Hid (pos t (Q.map FG.s) ≤ m ∧ (t ∈ Q.map FG.s → pos t (Q.map FG.s) < m)) := ⟨by omega, fun z => by
          obtain ⟨z1, z2⟩ := (pos_found HR.out).1 z
          rcases Nat.lt_or_ge (pos t (Q.map FG.s)) m with k | k
          · exact k
          · exfalso
            have e : pos t (Q.map FG.s) = m := by omega
            have z3 : (Q.map FG.s)[m]'HL.out = t := by rw [← z2]; congr 1; exact e.symm
            rw [HG.out HL.out] at z3
            rw [z3] at d
            exact lt_irrefl _ d⟩
        clear nm d
        go_wp2_with fail
        refine cm.mono ?_
        rintro _ w2 ⟨rfl, q2, rfl⟩
        clear ce'
        go_wp2_with fail
        go_roundg (m - l)
        case measure => omega
        case rel => exact ⟨l, m, by omega, HJ.out.1, HD.out.1, by omega, HD.out.2, rfl, rfl, rfl, q + q2, rfl⟩
    · have el : l = h := by omega
      subst el
      have HD : Hid (pos t (Q.map FG.s) = l ∧ t ∉ Q.map FG.s) := ⟨by have := HJ.out; omega, fun z => by have := HJ.out.2.2 z; have := HJ.out.1; omega⟩
      have i1 : ¬ (l : Int) < (l : Int) := by omega
      go_wp2_with fail
      go_ret2
      have e8 : pp = l := HE.out.1.trans HD.out.1
      have e9 : th = false := HE.out.2.trans (decide_eq_false HD.out.2)
      subst e8
      subst e9
      exact ⟨rfl, q, rfl⟩
end Go.Proofs.YtlhllbggnpcoaaaGreatDoor
