import Derived.Test.YtgglbjnfbfpiiaaGreatDoorQBasezz
import Derived.Laws.BitsAllLaws
/-
  Words turned right: the program's and the reference's way.
-/
namespace Go.Proofs.YtgglbjnfbfpiiaaGreatDoor.Dg
open Go.RowKit
/-- a word turned right by n bits -/
def rot (x n : Nat) : Nat := (x >>> n) ||| ((x <<< (32 - n)) % 4294967296)
theorem rot_lt {x : Nat} (n : Nat) (hx : x < 4294967296) : rot x n < 4294967296 := by
  unfold rot
  refine Nat.or_lt_two_pow (n := 32) ?_ (Nat.mod_lt _ (by decide))
  rw [Nat.shiftRight_eq_div_pow]
  exact Nat.lt_of_le_of_lt (Nat.div_le_self _ _) hx
theorem turn_or (x n : Nat) (hx : x < 4294967296) : bits .or .u32 ((x : Int) / 2 ^ n) ((x : Int) * 2 ^ (32 - n) % 4294967296) = ((rot x n : Nat) : Int) := by
  have e1 : (x : Int) / 2 ^ n = ((x >>> n : Nat) : Int) := by rw [Nat.shiftRight_eq_div_pow]; simp
  have e2 : (x : Int) * 2 ^ (32 - n) % 4294967296 = (((x <<< (32 - n)) % 4294967296 : Nat) : Int) := by rw [Nat.shiftLeft_eq]; simp
  rw [e1, e2]
  refine u32_or_nat _ _ ?_ (Nat.mod_lt _ (by decide))
  rw [Nat.shiftRight_eq_div_pow]
  exact Nat.lt_of_le_of_lt (Nat.div_le_self _ _) hx
theorem turn_or' (x n : Nat) (hx : x < 4294967296) : bits .or .u32 ((x : Int) * 2 ^ (32 - n) % 4294967296) ((x : Int) / 2 ^ n) = ((rot x n : Nat) : Int) := by
  rw [← turn_or x n hx]
  simp only [bits, BitVec.or_comm]
theorem left_count : ∀ n : Nat, n < 32 → 1 ≤ n → bits .and .u64 (IntKind.u64.wrap (-(n : Int))) 31 = ((32 - n : Nat) : Int) := by decide
set_option maxHeartbeats 400000 in
theorem left_any (w : World) (x : Nat) (n : Nat) (h2 : x < 4294967296) (hn : 1 ≤ n) (hm : n ≤ 31) :
    Calls Tryz.prog 135 #[.int .u32 x, .int .i64 (-(n : Int))] w fun e w' => e = .returned (.int .u32 (rot x n)) ∧ w' = w := by
  have hc := left_count n (by omega) hn
  obtain ⟨m, hm'⟩ : ∃ m, m = 32 - n := ⟨_, rfl⟩
  have h3 : Hid (n = 32 - m) := by show n = 32 - m; omega
  have h5 : m + n ≤ 32 := by omega
  have h6 : 32 ≤ m + n := by omega
  rw [← hm'] at hc
  have h4 : m ≤ 31 := by omega
  clear hm'
  go_enter Tryz.func135, Tryz.ntmps135
  go_wp2
  have e1 := turn_or' x n h2
  rw [show 32 - n = m by omega] at e1
  rw [show 32 - m = n by omega, e1]
  go_ret
  exact ⟨rfl, rfl⟩
set_option maxHeartbeats 400000 in
theorem rotR_any (w : World) (x : Nat) (n : Nat) (h2 : x < 4294967296) (hn : 1 ≤ n) (hm : n ≤ 31) :
    Calls Tryz.prog 114 #[.int .u32 x, .int .i64 (n : Int)] w fun e w' => e = .returned (.int .u32 (rot x n)) ∧ w' = w := by
  have c := left_any w x n h2 hn hm
  go_enter Tryz.func114, Tryz.ntmps114
  go_wp2_with (refine c.mono ?_; rintro _ _ ⟨rfl, rfl⟩)
  go_ret
  exact ⟨rfl, rfl⟩
end Go.Proofs.YtgglbjnfbfpiiaaGreatDoor.Dg
