import Derived.Test.YtlhllbggnpcoaaaGreatDoorRWords
import Derived.Test.YtlhllbggnpcoaaaGreatDoorMem
import Derived.Test.YtlhllbggnpcoaaaGreatDoorRRot
/-
  cairnref01: Compare, Same, of lists.
-/
namespace Go.Proofs.YtlhllbggnpcoaaaGreatDoor
open Go.RowKit

theorem ret_int {k : IntKind} {a b : Int} (h : a = b) : Ending.returned (.int k a) = .returned (.int k b) := by rw [h]
theorem cmp_both (n m : Nat) (Z Y : Nat → Int) (h1 : com Z Y (min n m) = n) (h2 : com Z Y (min n m) = m) : cmp n m Z Y = 0 := by unfold cmp; rw [if_pos ⟨h1, h2⟩]
theorem cmp_first (n m : Nat) (Z Y : Nat → Int) (h1 : com Z Y (min n m) = n) (h2 : com Z Y (min n m) ≠ m) : cmp n m Z Y = -1 := by unfold cmp; rw [if_neg (fun h => h2 h.2), if_pos h1]
theorem cmp_second (n m : Nat) (Z Y : Nat → Int) (h1 : com Z Y (min n m) ≠ n) (h2 : com Z Y (min n m) = m) : cmp n m Z Y = 1 := by unfold cmp; rw [if_neg (fun h => h1 h.1), if_neg h1, if_pos h2]
theorem cmp_lss (n m : Nat) (Z Y : Nat → Int) (h1 : com Z Y (min n m) ≠ n) (h2 : com Z Y (min n m) ≠ m) (h3 : Z (com Z Y (min n m)) < Y (com Z Y (min n m))) : cmp n m Z Y = -1 := by unfold cmp; rw [if_neg (fun h => h1 h.1), if_neg h1, if_neg h2, if_pos h3]
theorem cmp_gtr (n m : Nat) (Z Y : Nat → Int) (h1 : com Z Y (min n m) ≠ n) (h2 : com Z Y (min n m) ≠ m) (h3 : ¬ Z (com Z Y (min n m)) < Y (com Z Y (min n m))) : cmp n m Z Y = 1 := by unfold cmp; rw [if_neg (fun h => h1 h.1), if_neg h1, if_neg h2, if_neg h3]

set_option maxHeartbeats 800000 in
theorem rcommon_any (w : World) (a a' : Option Addr) (b off n c b' off' n' c' : Nat) (Z Y : Nat → Int) (h : View w a b off n Z) (h' : View w a' b' off' n' Y) :
    Calls Tryz.prog 96 #[.slice a n c, .slice a' n' c'] w fun e w' => e = .returned (.int .i64 (com Z Y (min n n'))) ∧ ∃ q, w' = w.drewN q := by
  have hn := h.len
  have hn' := h'.len
  obtain ⟨M, hM⟩ : ∃ M, M = min n n' := ⟨_, rfl⟩
  rw [← hM]
  have m1 : M ≤ n := by omega
  have m2 : M ≤ n' := by omega
  have m3 : n ≤ M ∨ n' ≤ M := by omega
  have HM : Hid (n ≤ M ∨ n' ≤ M) := m3
  clear hM m3
  go_enter Tryz.func96, Tryz.ntmps96
  go_wp2
  go_loopg [5] M (fun g i wr => ∃ k : Nat, k ≤ M ∧ g = M - k ∧ i = .int .i64 k ∧ (∀ i, i < k → Z i = Y i) ∧ ∃ q, wr = w.drewN q)
  case atStart => exact ⟨0, Nat.zero_le _, rfl, rfl, fun i hi => absurd hi (by omega), 0, rfl⟩
  case round =>
    obtain ⟨k, hk, rfl, rfl, hs, q, rfl⟩ := hrel
    have HS : Hid (∀ i, i < k → Z i = Y i) := hs
    clear hs
    by_cases hkM : k < M
    · obtain rfl := h.at_ (by omega)
      obtain rfl := h'.at_ (by omega)
      have c1 := h.cell k (by omega)
      have c2 := h'.cell k (by omega)
      have i1 : (k : Int) < (n : Int) := by omega
      have i2 : (k : Int) < (n' : Int) := by omega
      clear h h'
      by_cases e : Z k = Y k
      · have e' : (Z k == Y k) = true := by simpa using e
        have HE : Hid (Z k = Y k) := e
        clear e
        go_wp2
        go_quiet (fail)
        go_wp2
        go_roundg (M - (k + 1))
        case measure => omega
        case rel => exact ⟨k + 1, by omega, rfl, by go_num, fun i hi => by by_cases ee : i = k; (subst ee; exact HE.out); exact HS.out i (by omega), _, rfl⟩
      · have e' : (Z k == Y k) = false := by simpa using e
        go_wp2
        go_quiet (fail)
        go_wp2
        go_ret
        exact ⟨ret_int (by rw [com_stop Z Y M k hkM HS.out e]), _, World.drewN_drewN _ _ _⟩
    · have : k = M := by omega
      subst this
      have fin := com_all Z Y k HS.out
      by_cases i1 : (k : Int) < (n : Int)
      · have i2 : decide (k < n') = false := by rcases HM.out with x | x <;> (simp; omega)
        clear h h'
        go_wp2
        go_quiet (fail)
        go_wp2
        go_ret
        exact ⟨ret_int (by rw [fin]), _, World.drewN_drewN _ _ _⟩
      · have i2 : decide (k < n) = false := by simp; omega
        clear h h' i1
        go_wp2
        go_quiet (fail)
        go_wp2
        go_ret
        exact ⟨ret_int (by rw [fin]), _, World.drewN_drewN _ _ _⟩

set_option maxHeartbeats 400000 in
theorem rcompare_any (w : World) (a a' : Option Addr) (b off n c b' off' n' c' : Nat) (Z Y : Nat → Int) (h : View w a b off n Z) (h' : View w a' b' off' n' Y) :
    Calls Tryz.prog 63 #[.slice a n c, .slice a' n' c'] w fun e w' => e = .returned (.int .i64 (cmp n n' Z Y)) ∧ ∃ q, w' = w.drewN q := by
  have hn := h.len
  have hn' := h'.len
  have hcom := com_le Z Y (min n n')
  have H0 := cmp_both n n' Z Y
  have H1 := cmp_first n n' Z Y
  have H2 := cmp_second n n' Z Y
  have H3 := cmp_lss n n' Z Y
  have H4 := cmp_gtr n n' Z Y
  have hcall := rcommon_any w a a' b off n c b' off' n' c' Z Y h h'
  obtain ⟨K, hK⟩ : ∃ K, K = com Z Y (min n n') := ⟨_, rfl⟩
  rw [← hK] at hcom hcall H0 H1 H2 H3 H4
  clear hK
  have a0 : K ≤ n := by omega
  have a1 : K ≤ n' := by omega
  clear hcom
  by_cases e1 : K = n
  · by_cases e2 : K = n'
    · have r := H0 e1 e2
      clear H0 H1 H2 H3 H4
      rw [r]
      subst e1
      subst e2
      go_enter Tryz.func63, Tryz.ntmps63
      go_wp2_with (go_at_call 96; refine hcall.mono ?_; rintro e w' ⟨rfl, q, rfl⟩)
      go_ret
      exact ⟨rfl, _, rfl⟩
    · have r := H1 e1 e2
      clear H0 H1 H2 H3 H4
      rw [r]
      subst e1
      have e3 : ((K : Int) == (n' : Int)) = false := by simp; omega
      clear e2
      go_enter Tryz.func63, Tryz.ntmps63
      go_wp2_with (go_at_call 96; refine hcall.mono ?_; rintro e w' ⟨rfl, q, rfl⟩)
      go_ret
      exact ⟨rfl, _, rfl⟩
  · have e3 : ((K : Int) == (n : Int)) = false := by simp; omega
    by_cases e2 : K = n'
    · have r := H2 e1 e2
      clear H0 H1 H2 H3 H4
      rw [r]
      subst e2
      clear e1
      go_enter Tryz.func63, Tryz.ntmps63
      go_wp2_with (go_at_call 96; refine hcall.mono ?_; rintro e w' ⟨rfl, q, rfl⟩)
      go_ret
      exact ⟨rfl, _, rfl⟩
    · have e4 : ((K : Int) == (n' : Int)) = false := by simp; omega
      obtain rfl := h.at_ (by omega)
      obtain rfl := h'.at_ (by omega)
      have c1 := h.cell K (by omega)
      have c2 := h'.cell K (by omega)
      have i1 : (K : Int) < (n : Int) := by omega
      have i2 : (K : Int) < (n' : Int) := by omega
      by_cases e5 : Z K < Y K
      · have r := H3 e1 e2 e5
        clear H0 H1 H2 H3 H4 e1 e2 h h'
        rw [r]
        go_enter Tryz.func63, Tryz.ntmps63
        go_wp2_with (go_at_call 96; refine hcall.mono ?_; rintro e w' ⟨rfl, q, rfl⟩)
        go_quiet (fail)
        go_wp2
        go_ret
        exact ⟨rfl, _, World.drewN_drewN _ _ _⟩
      · have r := H4 e1 e2 e5
        clear H0 H1 H2 H3 H4 e1 e2 h h'
        rw [r]
        go_enter Tryz.func63, Tryz.ntmps63
        go_wp2_with (go_at_call 96; refine hcall.mono ?_; rintro e w' ⟨rfl, q, rfl⟩)
        go_quiet (fail)
        go_wp2
        go_ret
        exact ⟨rfl, _, World.drewN_drewN _ _ _⟩


set_option maxHeartbeats 400000 in
theorem same_any (w : World) (a a' : Option Addr) (b off n c b' off' n' c' : Nat) (Z Y : Nat → Int) (h : View w a b off n Z) (h' : View w a' b' off' n' Y) :
    Calls Tryz.prog 38 #[.slice a n c, .slice a' n' c'] w fun e w' => e = .returned (.bool (cmp n n' Z Y == 0)) ∧ ∃ q, w' = w.drewN q := by
  have hcall := rcompare_any w a a' b off n c b' off' n' c' Z Y h h'
  clear h h'
  go_enter Tryz.func38, Tryz.ntmps38
  go_wp2_with (go_at_call 63; refine hcall.mono ?_; rintro e w' ⟨rfl, q, rfl⟩)
  go_ret
  exact ⟨rfl, _, rfl⟩


/-- how much of the beginning two lists share -/
def pre : List Nat → List Nat → Nat
  | [], _ => 0
  | _ :: _, [] => 0
  | a :: x, b :: y => if a = b then pre x y + 1 else 0
theorem gd_cons_zero (a : Nat) (x : List Nat) : gd (a :: x) 0 = a := rfl
theorem gd_cons_succ (a : Nat) (x : List Nat) (i : Nat) : gd (a :: x) (i + 1) = gd x i := rfl
theorem pre_facts : ∀ s t : List Nat, pre s t ≤ s.length ∧ pre s t ≤ t.length ∧ (∀ i, i < pre s t → gd s i = gd t i) ∧ (pre s t < s.length → pre s t < t.length → gd s (pre s t) ≠ gd t (pre s t)) ∧
    cmpL s t = if pre s t = s.length ∧ pre s t = t.length then 0 else if pre s t = s.length then -1 else if pre s t = t.length then 1 else if gd s (pre s t) < gd t (pre s t) then -1 else 1
  | [], [] => by simp [pre, cmpL]
  | [], b :: y => by simp [pre, cmpL]
  | a :: x, [] => by simp [pre, cmpL]
  | a :: x, b :: y => by
    obtain ⟨h1, h2, h3, h4, h5⟩ := pre_facts x y
    by_cases e : a = b
    · subst e
      have ep : pre (a :: x) (a :: y) = pre x y + 1 := by simp [pre]
      rw [ep]
      refine ⟨by simpa using h1, by simpa using h2, fun i hi => ?_, fun k1 k2 => ?_, ?_⟩
      · cases i with
        | zero => rfl
        | succ i => rw [gd_cons_succ, gd_cons_succ]; exact h3 i (by omega)
      · rw [gd_cons_succ, gd_cons_succ]; exact h4 (by simpa using k1) (by simpa using k2)
      · simp only [cmpL, Nat.lt_irrefl, if_false, List.length_cons, Nat.add_right_cancel_iff, gd_cons_succ]
        exact h5
    · have ep : pre (a :: x) (b :: y) = 0 := by simp [pre, e]
      rw [ep]
      refine ⟨Nat.zero_le _, Nat.zero_le _, fun i hi => absurd hi (by omega), fun _ _ => e, ?_⟩
      simp only [cmpL, List.length_cons, gd_cons_zero]
      by_cases l : a < b
      · simp [l]
      · have : b < a := by omega
        simp [l, this]
theorem com_pre (s t : List Nat) : com (fun i => ((gd s i : Nat) : Int)) (fun i => ((gd t i : Nat) : Int)) (min s.length t.length) = pre s t := by
  obtain ⟨h1, h2, h3, h4, _⟩ := pre_facts s t
  refine com_eq _ _ _ _ (by omega) (fun i hi => by rw [h3 i hi]) (fun hl e => h4 (by omega) (by omega) (by omega))
theorem cmp_list (s t : List Nat) : cmp s.length t.length (fun i => ((gd s i : Nat) : Int)) (fun i => ((gd t i : Nat) : Int)) = cmpL s t := by
  obtain ⟨_, _, _, _, h5⟩ := pre_facts s t
  unfold cmp
  rw [com_pre, h5]
  split
  · rfl
  · split
    · rfl
    · split
      · rfl
      · by_cases q : gd s (pre s t) < gd t (pre s t)
        · rw [if_pos q, if_pos (by show ((gd s (pre s t) : Nat) : Int) < ((gd t (pre s t) : Nat) : Int); omega)]
        · rw [if_neg q, if_neg (by show ¬ ((gd s (pre s t) : Nat) : Int) < ((gd t (pre s t) : Nat) : Int); omega)]
theorem rcmp_any (w : World) (a a' : Option Addr) (b off c b' off' c' : Nat) (s t : List Nat) (h : Vw w a b off s) (h' : Vw w a' b' off' t) :
    Calls Tryz.prog 63 #[.slice a s.length c, .slice a' t.length c'] w fun e w' => e = .returned (.int .i64 (cmpL s t)) ∧ ∃ q, w' = w.drewN q := by
  have := rcompare_any w a a' b off s.length c b' off' t.length c' _ _ h h'
  rw [cmp_list] at this
  exact this
theorem rsame_any (w : World) (a a' : Option Addr) (b off c b' off' c' : Nat) (s t : List Nat) (h : Vw w a b off s) (h' : Vw w a' b' off' t) :
    Calls Tryz.prog 38 #[.slice a s.length c, .slice a' t.length c'] w fun e w' => e = .returned (.bool (decide (s = t))) ∧ ∃ q, w' = w.drewN q := by
  have := same_any w a a' b off s.length c b' off' t.length c' _ _ h h'
  rw [cmp_list] at this
  have e : (cmpL s t == 0) = decide (s = t) := by
    rw [Bool.eq_iff_iff]
    simp only [beq_iff_eq, decide_eq_true_eq]
    exact cmpL_zero
  rw [e] at this
  exact this
end Go.Proofs.YtlhllbggnpcoaaaGreatDoor
