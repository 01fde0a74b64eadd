import Derived.Test.YtlhllbggnpcoaaaDoorFg0
/-
  The laws' own Bits, and bits of bytes.
-/
namespace Go.Proofs.YtlhllbggnpcoaaaDoor
open Go.RowKit Go.Sort Go.Maps

def nbits (x : Int) : Nat := 8 + (Int.tmod x 249).natAbs
theorem nbits_le (x : Int) : 8 ≤ nbits x ∧ nbits x ≤ 256 := by
  unfold nbits
  have h1 := Int.natAbs_tmod x 249
  have h2 := Nat.mod_lt x.natAbs (show 0 < 249 by decide)
  have h3 : (249 : Int).natAbs = 249 := rfl
  rw [h3] at h1
  omega
theorem bits_any (w : World) (x : Int) : Calls Tryd.prog 6 #[.int .i64 x] w fun e w' => e = .returned (.int .i64 (nbits x : Nat)) ∧ w' = w := by
  have hb := nbits_le x
  have HE : Hid (nbits x = 8 + (Int.tmod x 249).natAbs) := (rfl : nbits x = 8 + (Int.tmod x 249).natAbs)
  have e0 := HE.out
  have r1 : -249 < Int.tmod x 249 ∧ Int.tmod x 249 < 249 := by omega
  obtain ⟨n, hn⟩ : ∃ n, n = nbits x := ⟨_, rfl⟩
  rw [← hn] at HE ⊢
  clear hb e0 hn
  by_cases hn : Int.tmod x 249 < 0
  · have HV : Hid ((n : Int) = 8 + -Int.tmod x 249) := by show (n : Int) = 8 + -Int.tmod x 249; have := HE.out; omega
    go_enter Tryd.func6, Tryd.ntmps6
    go_wp2_with fail
    go_ret
    refine ⟨?_, rfl⟩
    rw [HV.out]; rfl
  · have HV : Hid ((n : Int) = 8 + Int.tmod x 249) := by show (n : Int) = 8 + Int.tmod x 249; have := HE.out; omega
    go_enter Tryd.func6, Tryd.ntmps6
    go_wp2_with fail
    go_ret
    refine ⟨?_, rfl⟩
    rw [HV.out]; rfl

theorem keep_bit : ∀ j, j < 9 → ∀ m, m < 8 → ∀ x, x < 256 → (m < j → keep j x / 2 ^ (7 - m) % 2 = x / 2 ^ (7 - m) % 2) ∧ (j ≤ m → keep j x / 2 ^ (7 - m) % 2 = 0) := by decide +kernel
theorem cutf_bit (n : Nat) (f : Nat → Nat) (hf : ∀ i, f i < 256) (i : Nat) (hi : i < 256) :
    (i < n → cutf n f (i / 8) / 2 ^ (7 - i % 8) % 2 = cutf 256 f (i / 8) / 2 ^ (7 - i % 8) % 2) ∧ (n ≤ i → cutf n f (i / 8) / 2 ^ (7 - i % 8) % 2 = 0) := by
  have s1 := stay_le n (i / 8)
  have s2 : stay 256 (i / 8) = 8 := by unfold stay; omega
  have k1 := keep_bit (stay n (i / 8)) (by omega) (i % 8) (by omega) (f (i / 8)) (hf _)
  have k2 := keep_bit (stay 256 (i / 8)) (by omega) (i % 8) (by omega) (f (i / 8)) (hf _)
  unfold cutf
  refine ⟨fun h => ?_, fun h => ?_⟩
  · rw [k1.1 (by unfold stay; omega), k2.1 (by omega)]
  · exact k1.2 (by unfold stay; omega)
theorem half_pow : ∀ j, j < 8 → 128 / 2 ^ j / 2 = 128 / 2 ^ (j + 1) := by decide
theorem pow_half : ∀ j, j < 8 → 128 / 2 ^ j = 2 ^ (7 - j) := by decide
end Go.Proofs.YtlhllbggnpcoaaaDoor
