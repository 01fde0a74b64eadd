import Derived.Test.YtddpcoglbmlgcaaGreatDoorNMemzz
import Derived.Laws.Bits64b
/-
  The program's small calls: standsAlone, digitCount, numberOf, headSize.
-/
namespace Go.Proofs.YtddpcoglbmlgcaaGreatDoor
open Go.RowKit
set_option maxRecDepth 100000 in
set_option maxHeartbeats 800000 in
theorem alone_any (w : World) (a : Option Addr) (b off c : Nat) (s : List Nat) (hv : Vw w a b off s) :
    Calls Tryz.prog 118 #[.slice a s.length c] w fun e w' => e = .returned (.bool (alone s)) ∧ w' = w := by
  by_cases h1 : s.length = 1
  · obtain rfl := hv.at_ (by omega)
    have c0 := hv.cell 0 (by omega)
    have ea : alone s = decide (gd s 0 < 128) := by simp [alone, h1]
    rw [ea, h1]
    generalize gd s 0 = x at c0
    clear hv ea h1
    rw [Nat.add_zero] at c0
    by_cases h2 : x < 128
    · have h2' : (x : Int) < 128 := by omega
      rw [decide_eq_true h2]
      go_enter Tryz.func118, Tryz.ntmps118
      go_wp2_with fail
      go_ret
      exact ⟨rfl, rfl⟩
    · have h2' : ¬ (x : Int) < 128 := by omega
      rw [decide_eq_false h2]
      go_enter Tryz.func118, Tryz.ntmps118
      go_wp2_with fail
      go_ret
      exact ⟨rfl, rfl⟩
  · have ea : alone s = false := by simp [alone, h1]
    rw [ea]
    have hn : ¬ ((s.length : Int) = 1) := by omega
    generalize s.length = n at hn
    clear hv ea h1
    go_enter Tryz.func118, Tryz.ntmps118
    go_wp2_with fail
    go_ret
    exact ⟨rfl, rfl⟩
set_option maxRecDepth 100000 in
set_option maxHeartbeats 800000 in
theorem digitCount_any (w : World) (n : Nat) (hn : n < 18446744073709551616) :
    Calls Tryz.prog 146 #[.int .u64 n] w fun e w' => e = .returned (.int .i64 (digs n).length) ∧ w' = w := by
  have HL : Hid ((digs n).length ≤ 8) := digs_len_le (by omega)
  go_enter Tryz.func146, Tryz.ntmps146
  go_wp2_with fail
  go_loopg [0, 3] n (fun gg u k wr => ∃ (m j : Nat), gg = m ∧ m ≤ n ∧ u = .int .u64 m ∧ k = .int .i64 j ∧ j + (digs m).length = (digs n).length ∧ wr = w)
  case atStart => exact ⟨n, 0, rfl, Nat.le_refl _, rfl, rfl, Nat.zero_add _, rfl⟩
  case round =>
    obtain ⟨m, j, rfl, hm, rfl, rfl, hj, ewr⟩ := hrel
    subst ewr
    have HJ : Hid (j + (digs gk).length = (digs n).length) := hj
    clear hj
    by_cases h0 : 0 < gk
    · have i1 : (0 : Int) < (gk : Int) := by omega
      have e1 : (digs gk).length = (digs (gk / 256)).length + 1 := by rw [digs_pos h0]; simp
      have HE : Hid ((digs gk).length = (digs (gk / 256)).length + 1) := e1
      clear e1
      have l1 : j ≤ 8 := by have := HJ.out; have := HL.out; omega
      go_wp2_with fail
      go_roundg (gk / 256)
      case measure => omega
      case rel => exact ⟨gk / 256, j + 1, rfl, by omega, by go_num, by go_num, by have := HJ.out; have := HE.out; omega, rfl⟩
    · have e0 : gk = 0 := by omega
      subst e0
      have hj2 : j = (digs n).length := by have := HJ.out; rw [digs_zero] at this; simpa using this
      have HJ2 : Hid (j = (digs n).length) := hj2
      clear hj2
      clear HJ
      go_wp2_with fail
      go_ret
      exact ⟨by rw [HJ2.out]; rfl, rfl⟩
set_option maxRecDepth 100000 in
set_option maxHeartbeats 800000 in
theorem headSize_any (w : World) (n : Nat) (hn : n < 9223372036854775808) :
    Calls Tryz.prog 119 #[.int .i64 n] w fun e w' => e = .returned (.int .i64 (hdr 0 n).length) ∧ w' = w := by
  by_cases h : n < 56
  · have e1 : (hdr 0 n).length = 1 := by unfold hdr; rw [if_pos h]; rfl
    rw [e1]
    have i1 : (n : Int) < 56 := by omega
    go_enter Tryz.func119, Tryz.ntmps119
    go_wp2_with fail
    go_ret
    exact ⟨rfl, rfl⟩
  · have e1 : (hdr 0 n).length = 1 + (digs n).length := by unfold hdr; rw [if_neg h]; simp; omega
    have K := digitCount_any w n (by omega)
    have l1 : (digs n).length ≤ 8 := digs_len_le (by omega)
    rw [e1]
    generalize (digs n).length = k at K l1
    clear e1
    have i1 : ¬ (n : Int) < 56 := by omega
    go_enter Tryz.func119, Tryz.ntmps119
    go_wp2_with (go_at_call 146; refine K.mono ?_; rintro e w' ⟨rfl, rfl⟩)
    go_ret
    exact ⟨by go_num, rfl⟩
theorem num_lt {s : List Nat} (h : ∀ x ∈ s, x < 256) : num s < 256 ^ s.length := by
  suffices ∀ (m : Nat) (s : List Nat), s.length = m → (∀ x ∈ s, x < 256) → num s < 256 ^ m from this _ s rfl h
  intro m
  induction m with
  | zero => intro s h _
            obtain rfl : s = [] := List.eq_nil_of_length_eq_zero h
            decide
  | succ m ih =>
    intro s hl hb
    obtain ⟨t, x, rfl⟩ : ∃ t x, s = t ++ [x] := ⟨s.dropLast, s.getLast (by intro e; simp [e] at hl), (List.dropLast_concat_getLast _).symm⟩
    have := ih t (by simpa using hl) (fun y hy => hb y (by simp [hy]))
    have := hb x (by simp)
    rw [num_app1, Nat.pow_succ]
    omega
theorem take_gd {s : List Nat} {i : Nat} (h : i < s.length) : s.take (i + 1) = s.take i ++ [gd s i] := by rw [List.take_succ_eq_append_getElem h, gd_get h]
theorem num_take {s : List Nat} {i : Nat} (h : i < s.length) : num (s.take (i + 1)) = num (s.take i) * 256 + gd s i := by rw [take_gd h, num_app1]
theorem or_byte (m x : Nat) (hm : m < 72057594037927936) (hx : x < 256) : bits .or .u64 ((m : Int) * 256) (x : Int) = ((m * 256 + x : Nat) : Int) := by
  have e : ((m : Int) * 256) = ((m * 256 : Nat) : Int) := by omega
  rw [e, bits_or_u64_nat _ _ (by omega) (by omega)]
  have : m * 256 ||| x = m * 256 + x := by
    have := Nat.two_pow_add_eq_or_of_lt (i := 8) (b := x) (by omega) m
    rw [show 2 ^ 8 * m = m * 256 by omega] at this
    exact this.symm
  rw [this]
set_option maxRecDepth 100000 in
set_option maxHeartbeats 800000 in
theorem numberOf_any (w : World) (a : Option Addr) (b off c : Nat) (s : List Nat) (hv : Vw w a b off s) (h8 : s.length ≤ 8) :
    Calls Tryz.prog 158 #[.slice a s.length c] w fun e w' => e = .returned (.int .u64 (num s)) ∧ w' = w := by
  have HV : Hid (Vw w a b off s) := hv
  obtain ⟨n, en⟩ : ∃ n, n = s.length := ⟨_, rfl⟩
  have HN : Hid (n = s.length) := en
  rw [← en]
  have h8' : n ≤ 8 := by omega
  clear hv h8 en
  go_enter Tryz.func158, Tryz.ntmps158
  go_wp2_with fail
  go_loopg [3, 8] n (fun gg u k wr => ∃ (i : Nat), i ≤ n ∧ gg = n - i ∧ u = .int .u64 (num (s.take i)) ∧ k = .int .i64 i ∧ wr = w)
  case atStart => exact ⟨0, Nat.zero_le _, rfl, rfl, rfl, rfl⟩
  case round =>
    obtain ⟨i, hi, rfl, rfl, rfl, ewr⟩ := hrel
    subst ewr
    by_cases h0 : i < n
    · have i1 : (i : Int) < (n : Int) := by omega
      obtain rfl := HV.out.at_ (by have := HN.out; omega)
      have c0 := HV.out.cell i (by have := HN.out; omega)
      have hb := (vw_ok HV.out).2
      have hx := gd_lt hb i
      have ht := num_lt (s := s.take i) (fun x hx => hb x (List.mem_of_mem_take hx))
      have e2 : num (s.take (i + 1)) = num (s.take i) * 256 + gd s i := num_take (by have := HN.out; omega)
      have hl : (s.take i).length = i := by simp; have := HN.out; omega
      rw [hl] at ht
      have ht2 : num (s.take i) < 72057594037927936 := Nat.lt_of_lt_of_le ht (by
        have : (72057594037927936 : Nat) = 256 ^ 7 := by decide
        rw [this]
        exact Nat.pow_le_pow_right (by decide) (by omega))
      have HE : Hid (num (s.take (i + 1)) = num (s.take i) * 256 + gd s i) := e2
      clear e2 ht hl hb
      generalize num (s.take i) = m at *
      generalize gd s i = x at *
      have HO : Hid (bits .or .u64 ((m : Int) * 256) (x : Int) = ((m * 256 + x : Nat) : Int)) := or_byte m x ht2 hx
      go_wp2_with fail
      go_roundg (n - (i + 1))
      case measure => omega
      case rel => exact ⟨i + 1, h0, rfl, by rw [HE.out, HO.out], by go_num, rfl⟩
    · have e0 : i = n := by omega
      have e2 : num (s.take i) = num s := by rw [List.take_of_length_le (by have := HN.out; omega)]
      have HE : Hid (num (s.take i) = num s) := e2
      have i1 : ¬ (i : Int) < (n : Int) := by omega
      clear e2
      go_wp2_with fail
      go_ret
      exact ⟨by rw [← HE.out, e0]; rfl, rfl⟩
end Go.Proofs.YtddpcoglbmlgcaaGreatDoor
