/-
  path.pathLength, path.isForm.
-/
import Derived.Test.YtmblfmcckejlmaaPVb
import Derived.Laws.BitsAllLaws
namespace Go.Proofs.Ytmblfmcckejlmaa
open Go.RowKit

theorem n16 : ∀ x : Fin 256, x.val &&& 16 = 16 * (x.val / 16 % 2) := by decide +kernel
theorem n32 : ∀ x : Fin 256, x.val &&& 32 = 32 * (x.val / 32 % 2) := by decide +kernel
theorem ret_int {k : IntKind} {a b : Int} (h : a = b) : Ending.returned (.int k a) = .returned (.int k b) := by rw [h]
theorem ret_bool {a b : Bool} (h : a = b) : Ending.returned (.bool a) = .returned (.bool b) := by rw [h]
theorem a16 (x : Nat) (h : x < 256) : bits .and .u8 (x : Int) 16 = ((16 * (x / 16 % 2) : Nat) : Int) := by
  have := u8_and_nat x 16 h (by decide)
  rw [n16 ⟨x, h⟩] at this
  exact this
theorem a32 (x : Nat) (h : x < 256) : bits .and .u8 (x : Int) 32 = ((32 * (x / 32 % 2) : Nat) : Int) := by
  have := u8_and_nat x 32 h (by decide)
  rw [n32 ⟨x, h⟩] at this
  exact this

set_option maxRecDepth 100000 in
set_option maxHeartbeats 800000 in
theorem plen_any (w : World) (a : Option Addr) (b off c : Nat) (s : List Nat) (hv : Vw w a b off s) (h0 : 0 < s.length) :
    Calls Try.prog 84 #[.slice a s.length c] w fun e w' => e = .returned (.int .i64 ((plen s : Nat) : Int)) ∧ w' = w := by
  have hn := hv.len
  have c0 := hv.cell 0 h0
  obtain rfl := hv.at_ h0
  have hz : gd s 0 < 256 := gd_lt (vw_ok hv).2 0
  have HP : Hid (plen s = 2 * (s.length - 1) + gd s 0 / 16 % 2) := by show plen s = _; unfold plen od; rfl
  have m16 := a16 (gd s 0) hz
  obtain ⟨x, hx⟩ : ∃ x, x = gd s 0 := ⟨_, rfl⟩
  obtain ⟨n, en⟩ : ∃ n, n = s.length := ⟨_, rfl⟩
  rw [← hx] at c0 hz HP m16
  rw [← en] at h0 hn HP ⊢
  rw [Nat.add_zero] at c0
  clear hv hx en
  have i1 : (0 : Int) < (n : Int) := by omega
  by_cases o : x / 16 % 2 = 0
  · rw [o] at m16
    have HO : Hid (x / 16 % 2 = 0) := o
    replace m16 : bits .and .u8 (x : Int) 16 = 0 := m16
    clear o
    go_enter Try.func84, Try.ntmps84
    go_wp2_with fail
    go_ret
    refine ⟨ret_int ?_, rfl⟩
    rw [HP.out, HO.out]
    omega
  · have o1 : x / 16 % 2 = 1 := by omega
    rw [o1] at m16
    have HO : Hid (x / 16 % 2 = 1) := o1
    replace m16 : bits .and .u8 (x : Int) 16 = 16 := m16
    clear o o1
    go_enter Try.func84, Try.ntmps84
    go_wp2_with fail
    go_ret
    refine ⟨ret_int ?_, rfl⟩
    rw [HP.out, HO.out]
    omega

set_option maxRecDepth 100000 in
set_option maxHeartbeats 1600000 in
theorem isForm_any (w : World) (a : Option Addr) (b off c : Nat) (s : List Nat) (hv : Vw w a b off s) :
    Calls Try.prog 83 #[.slice a s.length c] w fun e w' => e = .returned (.bool (decide (IsF s))) ∧ w' = w := by
  have hn := hv.len
  by_cases h0 : 0 < s.length
  · have K := plen_any w a b off c s hv h0
    have c0 := hv.cell 0 h0
    obtain rfl := hv.at_ h0
    have hz : gd s 0 < 256 := gd_lt (vw_ok hv).2 0
    have HF : Hid (IsF s ↔ (gd s 0 < 64 ∧ (gd s 0 / 16 % 2 = 0 → gd s 0 % 16 = 0) ∧ plen s ≤ 64)) := by
      show IsF s ↔ _
      unfold IsF od
      exact ⟨fun h => h.2, fun h => ⟨h0, h⟩⟩
    have hl : plen s ≤ 562949953421313 := by unfold plen; have := od_lt s; omega
    have m16 := a16 (gd s 0) hz
    obtain ⟨x, hx⟩ : ∃ x, x = gd s 0 := ⟨_, rfl⟩
    obtain ⟨n, en⟩ : ∃ n, n = s.length := ⟨_, rfl⟩
    obtain ⟨p, ep⟩ : ∃ p, p = plen s := ⟨_, rfl⟩
    rw [← hx] at c0 hz m16 HF
    rw [← en] at h0 hn K ⊢
    rw [← ep] at HF K hl
    rw [Nat.add_zero] at c0
    have HK : Hid (Calls Try.prog 84 #[.slice (some ⟨b, off, none⟩) n c] w fun e w' => e = .returned (.int .i64 (p : Int)) ∧ w' = w) := K
    clear hv hx en ep K
    have i1 : (0 : Int) < (n : Int) := by omega
    have i2 : ((n : Int) == 0) = false := by simp; omega
    by_cases h64 : 64 ≤ x
    · have e0 : decide (IsF s) = false := decide_eq_false (fun h => by have := (HF.out.1 h).1; omega)
      rw [e0]
      have g1 : (64 : Int) ≤ (x : Int) := by omega
      clear h64
      go_enter Try.func83, Try.ntmps83
      go_wp2_with fail
      go_ret
      exact ⟨rfl, rfl⟩
    · have g1 : ¬ (64 : Int) ≤ (x : Int) := by omega
      by_cases o : x / 16 % 2 = 0
      · have m16' : bits .and .u8 (x : Int) 16 = 0 := by rw [m16, o]; rfl
        have HO : Hid (x / 16 % 2 = 0 ∧ x < 64) := ⟨o, by omega⟩
        clear m16 o h64
        by_cases l : x % 16 = 0
        · have HL : Hid (x % 16 = 0) := l
          have l1 : ((x : Int) % 16 == 0) = true := by simp; omega
          have l2 : (x : Int) % 16 = 0 := by omega
          have e0 : decide (IsF s) = decide (p ≤ 64) := by
            have := HF.out
            have h1 := HO.out
            have h2 := HL.out
            rw [decide_eq_decide, this]
            exact ⟨fun h => h.2.2, fun h => ⟨h1.2, fun _ => h2, h⟩⟩
          rw [e0]
          clear l
          go_enter Try.func83, Try.ntmps83
          go_wp2_with fail
          refine HK.out.mono ?_
          rintro e w1 ⟨rfl, rfl⟩
          go_wp2_with fail
          go_ret
          refine ⟨ret_bool ?_, rfl⟩
          rw [decide_eq_decide]
          omega
        · have l1 : ((x : Int) % 16 == 0) = false := by simp; omega
          have l2 : ¬ (x : Int) % 16 = 0 := by omega
          have e0 : decide (IsF s) = false := decide_eq_false (fun h => l ((HF.out.1 h).2.1 HO.out.1))
          rw [e0]
          clear l
          go_enter Try.func83, Try.ntmps83
          go_wp2_with fail
          go_ret
          exact ⟨rfl, rfl⟩
      · have o1 : x / 16 % 2 = 1 := by omega
        have m16' : bits .and .u8 (x : Int) 16 = 16 := by rw [m16, o1]; rfl
        have e0 : decide (IsF s) = decide (p ≤ 64) := by
          have := HF.out
          rw [decide_eq_decide, this]
          exact ⟨fun h => h.2.2, fun h => ⟨by omega, fun z => absurd z o, h⟩⟩
        rw [e0]
        clear m16 o h64 o1
        go_enter Try.func83, Try.ntmps83
        go_wp2_with fail
        refine HK.out.mono ?_
        rintro e w1 ⟨rfl, rfl⟩
        go_wp2_with fail
        go_ret
        refine ⟨ret_bool ?_, rfl⟩
        rw [decide_eq_decide]
        omega
  · have e0 : decide (IsF s) = false := decide_eq_false (fun h => h0 h.1)
    rw [e0]
    have en : s.length = 0 := by omega
    rw [en]
    clear hv hn h0 en e0
    go_enter Try.func83, Try.ntmps83
    go_wp2_with fail
    go_ret
    exact ⟨rfl, rfl⟩
end Go.Proofs.Ytmblfmcckejlmaa
