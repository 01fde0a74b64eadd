/-
  cairnref01: Common, Compare, Same.
-/
import Derived.Test.YthjcndlapelnlaaPlain
import Derived.Test.YthjcndlapelnlaaMem
namespace Go.Proofs.Ythjcndlapelnlaa
open Go.RowKit

theorem ret_int {k : IntKind} {a b : Int} (h : a = b) : Ending.returned (.int k a) = .returned (.int k b) := by rw [h]
theorem cmp_both (n m : Nat) (Z Y : Nat → Int) (h1 : com Z Y (min n m) = n) (h2 : com Z Y (min n m) = m) : cmp n m Z Y = 0 := by unfold cmp; rw [if_pos ⟨h1, h2⟩]
theorem cmp_first (n m : Nat) (Z Y : Nat → Int) (h1 : com Z Y (min n m) = n) (h2 : com Z Y (min n m) ≠ m) : cmp n m Z Y = -1 := by unfold cmp; rw [if_neg (fun h => h2 h.2), if_pos h1]
theorem cmp_second (n m : Nat) (Z Y : Nat → Int) (h1 : com Z Y (min n m) ≠ n) (h2 : com Z Y (min n m) = m) : cmp n m Z Y = 1 := by unfold cmp; rw [if_neg (fun h => h1 h.1), if_neg h1, if_pos h2]
theorem cmp_lss (n m : Nat) (Z Y : Nat → Int) (h1 : com Z Y (min n m) ≠ n) (h2 : com Z Y (min n m) ≠ m) (h3 : Z (com Z Y (min n m)) < Y (com Z Y (min n m))) : cmp n m Z Y = -1 := by unfold cmp; rw [if_neg (fun h => h1 h.1), if_neg h1, if_neg h2, if_pos h3]
theorem cmp_gtr (n m : Nat) (Z Y : Nat → Int) (h1 : com Z Y (min n m) ≠ n) (h2 : com Z Y (min n m) ≠ m) (h3 : ¬ Z (com Z Y (min n m)) < Y (com Z Y (min n m))) : cmp n m Z Y = 1 := by unfold cmp; rw [if_neg (fun h => h1 h.1), if_neg h1, if_neg h2, if_neg h3]

set_option maxHeartbeats 800000 in
theorem rcommon_any (w : World) (a a' : Option Addr) (b off n c b' off' n' c' : Nat) (Z Y : Nat → Int) (h : View w a b off n Z) (h' : View w a' b' off' n' Y) :
    Calls Try.prog 48 #[.slice a n c, .slice a' n' c'] w fun e w' => e = .returned (.int .i64 (com Z Y (min n n'))) ∧ ∃ q, w' = w.drewN q := by
  have hn := h.len
  have hn' := h'.len
  obtain ⟨M, hM⟩ : ∃ M, M = min n n' := ⟨_, rfl⟩
  rw [← hM]
  have m1 : M ≤ n := by omega
  have m2 : M ≤ n' := by omega
  have m3 : n ≤ M ∨ n' ≤ M := by omega
  have HM : Hid (n ≤ M ∨ n' ≤ M) := m3
  clear hM m3
  go_enter Try.func48, Try.ntmps48
  go_wp2
  go_loopg [5] M (fun g i wr => ∃ k : Nat, k ≤ M ∧ g = M - k ∧ i = .int .i64 k ∧ (∀ i, i < k → Z i = Y i) ∧ ∃ q, wr = w.drewN q)
  case atStart => exact ⟨0, Nat.zero_le _, rfl, rfl, fun i hi => absurd hi (by omega), 0, rfl⟩
  case round =>
    obtain ⟨k, hk, rfl, rfl, hs, q, rfl⟩ := hrel
    have HS : Hid (∀ i, i < k → Z i = Y i) := hs
    clear hs
    by_cases hkM : k < M
    · obtain rfl := h.at_ (by omega)
      obtain rfl := h'.at_ (by omega)
      have c1 := h.cell k (by omega)
      have c2 := h'.cell k (by omega)
      have i1 : (k : Int) < (n : Int) := by omega
      have i2 : (k : Int) < (n' : Int) := by omega
      clear h h'
      by_cases e : Z k = Y k
      · have e' : (Z k == Y k) = true := by simpa using e
        have HE : Hid (Z k = Y k) := e
        clear e
        go_wp2
        go_quiet (fail)
        go_wp2
        go_roundg (M - (k + 1))
        case measure => omega
        case rel => exact ⟨k + 1, by omega, rfl, by go_num, fun i hi => by by_cases ee : i = k; (subst ee; exact HE.out); exact HS.out i (by omega), _, rfl⟩
      · have e' : (Z k == Y k) = false := by simpa using e
        go_wp2
        go_quiet (fail)
        go_wp2
        go_ret
        exact ⟨ret_int (by rw [com_stop Z Y M k hkM HS.out e]), _, World.drewN_drewN _ _ _⟩
    · have : k = M := by omega
      subst this
      have fin := com_all Z Y k HS.out
      by_cases i1 : (k : Int) < (n : Int)
      · have i2 : decide (k < n') = false := by rcases HM.out with x | x <;> (simp; omega)
        clear h h'
        go_wp2
        go_quiet (fail)
        go_wp2
        go_ret
        exact ⟨ret_int (by rw [fin]), _, World.drewN_drewN _ _ _⟩
      · have i2 : decide (k < n) = false := by simp; omega
        clear h h' i1
        go_wp2
        go_quiet (fail)
        go_wp2
        go_ret
        exact ⟨ret_int (by rw [fin]), _, World.drewN_drewN _ _ _⟩

set_option maxHeartbeats 400000 in
theorem rcompare_any (w : World) (a a' : Option Addr) (b off n c b' off' n' c' : Nat) (Z Y : Nat → Int) (h : View w a b off n Z) (h' : View w a' b' off' n' Y) :
    Calls Try.prog 38 #[.slice a n c, .slice a' n' c'] w fun e w' => e = .returned (.int .i64 (cmp n n' Z Y)) ∧ ∃ q, w' = w.drewN q := by
  have hn := h.len
  have hn' := h'.len
  have hcom := com_le Z Y (min n n')
  have H0 := cmp_both n n' Z Y
  have H1 := cmp_first n n' Z Y
  have H2 := cmp_second n n' Z Y
  have H3 := cmp_lss n n' Z Y
  have H4 := cmp_gtr n n' Z Y
  have hcall := rcommon_any w a a' b off n c b' off' n' c' Z Y h h'
  obtain ⟨K, hK⟩ : ∃ K, K = com Z Y (min n n') := ⟨_, rfl⟩
  rw [← hK] at hcom hcall H0 H1 H2 H3 H4
  clear hK
  have a0 : K ≤ n := by omega
  have a1 : K ≤ n' := by omega
  clear hcom
  by_cases e1 : K = n
  · by_cases e2 : K = n'
    · have r := H0 e1 e2
      clear H0 H1 H2 H3 H4
      rw [r]
      subst e1
      subst e2
      go_enter Try.func38, Try.ntmps38
      go_wp2_with (go_at_call 48; refine hcall.mono ?_; rintro e w' ⟨rfl, q, rfl⟩)
      go_ret
      exact ⟨rfl, _, rfl⟩
    · have r := H1 e1 e2
      clear H0 H1 H2 H3 H4
      rw [r]
      subst e1
      have e3 : ((K : Int) == (n' : Int)) = false := by simp; omega
      clear e2
      go_enter Try.func38, Try.ntmps38
      go_wp2_with (go_at_call 48; refine hcall.mono ?_; rintro e w' ⟨rfl, q, rfl⟩)
      go_ret
      exact ⟨rfl, _, rfl⟩
  · have e3 : ((K : Int) == (n : Int)) = false := by simp; omega
    by_cases e2 : K = n'
    · have r := H2 e1 e2
      clear H0 H1 H2 H3 H4
      rw [r]
      subst e2
      clear e1
      go_enter Try.func38, Try.ntmps38
      go_wp2_with (go_at_call 48; refine hcall.mono ?_; rintro e w' ⟨rfl, q, rfl⟩)
      go_ret
      exact ⟨rfl, _, rfl⟩
    · have e4 : ((K : Int) == (n' : Int)) = false := by simp; omega
      obtain rfl := h.at_ (by omega)
      obtain rfl := h'.at_ (by omega)
      have c1 := h.cell K (by omega)
      have c2 := h'.cell K (by omega)
      have i1 : (K : Int) < (n : Int) := by omega
      have i2 : (K : Int) < (n' : Int) := by omega
      by_cases e5 : Z K < Y K
      · have r := H3 e1 e2 e5
        clear H0 H1 H2 H3 H4 e1 e2 h h'
        rw [r]
        go_enter Try.func38, Try.ntmps38
        go_wp2_with (go_at_call 48; refine hcall.mono ?_; rintro e w' ⟨rfl, q, rfl⟩)
        go_quiet (fail)
        go_wp2
        go_ret
        exact ⟨rfl, _, World.drewN_drewN _ _ _⟩
      · have r := H4 e1 e2 e5
        clear H0 H1 H2 H3 H4 e1 e2 h h'
        rw [r]
        go_enter Try.func38, Try.ntmps38
        go_wp2_with (go_at_call 48; refine hcall.mono ?_; rintro e w' ⟨rfl, q, rfl⟩)
        go_quiet (fail)
        go_wp2
        go_ret
        exact ⟨rfl, _, World.drewN_drewN _ _ _⟩


set_option maxHeartbeats 400000 in
theorem same_any (w : World) (a a' : Option Addr) (b off n c b' off' n' c' : Nat) (Z Y : Nat → Int) (h : View w a b off n Z) (h' : View w a' b' off' n' Y) :
    Calls Try.prog 37 #[.slice a n c, .slice a' n' c'] w fun e w' => e = .returned (.bool (cmp n n' Z Y == 0)) ∧ ∃ q, w' = w.drewN q := by
  have hcall := rcompare_any w a a' b off n c b' off' n' c' Z Y h h'
  clear h h'
  go_enter Try.func37, Try.ntmps37
  go_wp2_with (go_at_call 38; refine hcall.mono ?_; rintro e w' ⟨rfl, q, rfl⟩)
  go_ret
  exact ⟨rfl, _, rfl⟩


theorem rsame_any (w : World) (a a' : Option Addr) (b off c b' off' c' : Nat) (s t : List Nat) (h : Vw w a b off s) (h' : Vw w a' b' off' t) :
    Calls Try.prog 37 #[.slice a s.length c, .slice a' t.length c'] w fun e w' => e = .returned (.bool (decide (s = t))) ∧ ∃ q, w' = w.drewN q := by
  have := same_any w a a' b off s.length c b' off' t.length c' _ _ h h'
  have e : (cmp s.length t.length (fun i => ((gd s i : Nat) : Int)) (fun i => ((gd t i : Nat) : Int)) == 0) = decide (s = t) := by
    rw [Bool.eq_iff_iff]
    simp only [beq_iff_eq, decide_eq_true_eq]
    rw [cmp_zero_iff]
    constructor
    · rintro ⟨e1, e2⟩
      exact ext_gd e1 (fun i hi => by have := e2 i hi; simp only at this; omega)
    · rintro rfl
      exact ⟨rfl, fun _ _ => rfl⟩
  rw [e] at this
  exact this
end Go.Proofs.Ythjcndlapelnlaa
