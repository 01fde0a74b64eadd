import Derived.Test.YtledfigfokoiiaaGuq
/-
  readHead.
-/
namespace Go.Proofs.Ytledfigfokoiiaa
open Go.RowKit
set_option maxRecDepth 100000 in
set_option maxHeartbeats 1600000 in
theorem readHead_any (w : World) (a : Option Addr) (b off e c p base m : Nat) (s : List Nat) (hv : Vp w a b off e c s) (hp : p < e) (hg : gd s p = base + m) (hm : m < 64) :
    Calls Try.prog 32 #[.slice a e c, .int .i64 p, .int .u8 base] w fun r w' => w' = w ∧ match rdHead s p e m with
      | .ok x z => r = .returned (.tuple #[.int .i64 x, .int .i64 z])
      | .bad q => r = .panicked [flt p q] := by
  obtain ⟨rfl, c0, hx⟩ := hv.cell hp
  rw [hg] at c0
  have KG := fun r => giveUp_any w p r
  have he : e ≤ 1048576 := by have := hv.len; have := hv.small; omega
  have e1 : ((base + m : Nat) : Int) = (base : Int) + m := by omega
  rw [e1] at c0
  have eb : (base : Int) + m - base = m := by omega
  clear e1
  have hb256 : base + m < 256 := by omega
  unfold rdHead
  by_cases h1 : m < 56
  · rw [if_pos h1]
    have i1 : (m : Int) < 56 := by omega
    by_cases h2 : e - (p + 1) < m
    · rw [if_pos h2]
      have i2 : (e : Int) - ((p : Int) + 1) < m := by omega
      clear hv hg hx
      go_enter Try.func32, Try.ntmps32
      go_wp2_with (go_at_call 26; refine (KG 50).mono ?_; rintro e w' ⟨rfl, rfl⟩)
      exact ⟨rfl, rfl, rfl⟩
    · rw [if_neg h2]
      have i2 : ¬ (e : Int) - ((p : Int) + 1) < m := by omega
      clear hv hg hx
      go_enter Try.func32, Try.ntmps32
      go_wp2_with fail
      go_ret2
      exact ⟨rfl, rfl⟩
  · rw [if_neg h1]
    have i1 : ¬ (m : Int) < 56 := by omega
    by_cases h2 : e - (p + 1) < m - 55
    · rw [if_pos h2]
      have i2 : (e : Int) - ((p : Int) + 1) < (m : Int) - 55 := by omega
      clear hv hg hx
      go_enter Try.func32, Try.ntmps32
      go_wp2_with (go_at_call 26; refine (KG 50).mono ?_; rintro e w' ⟨rfl, rfl⟩)
      exact ⟨rfl, rfl, rfl⟩
    · rw [if_neg h2]
      have i2 : ¬ (e : Int) - ((p : Int) + 1) < (m : Int) - 55 := by omega
      obtain ⟨k, rfl⟩ : ∃ k, m = k + 55 := ⟨m - 55, by omega⟩
      rw [Nat.add_sub_cancel] at *
      have sb := slice_both (some ⟨b, off, none⟩) e c (p + 1) (p + 1 + k) (by omega) (by have := hv.cap; omega)
      have hc := hv.cut (l := p + 1) (z := p + 1 + k) (by omega) (by omega)
      have hcl : (cut s (p + 1) (p + 1 + k)).length = k := by rw [cut_len (by have := hv.len; omega)]; omega
      have KL := readLength_any w _ _ _ (c - (p + 1)) p _ hc (by omega) (by omega)
      have hg1 : gd (cut s (p + 1) (p + 1 + k)) 0 = gd s (p + 1) := by rw [cut_gd (by omega), Nat.add_zero]
      rw [hcl] at KL
      unfold rdLen at KL
      rw [hg1] at KL
      rw [show p + 1 + k - (p + 1) = k by omega] at sb
      generalize behind (some ⟨b, off, none⟩) c (p + 1) = bh at sb KL
      generalize num (cut s (p + 1) (p + 1 + k)) = n at *
      generalize gd s (p + 1) = x at *
      rw [show (((p + 1 : Nat)) : Int) = (p : Int) + 1 by omega, show (((p + 1 + k : Nat)) : Int) = (p : Int) + 1 + k by omega] at sb
      clear hv hg hx hc hcl hg1
      have eb2 : (base : Int) + ((k : Int) + 55) - base = (k : Int) + 55 := by omega
      have ek : ((k + 55 : Nat) : Int) = (k : Int) + 55 := by omega
      have ek2 : (k : Int) + 55 - 55 = (k : Int) := by omega
      rw [ek] at c0 i1 i2
      clear ek eb
      by_cases h3 : x = 0
      · rw [if_pos h3] at KL ⊢
        go_enter Try.func32, Try.ntmps32
        go_wp2_with (go_at_call 38; refine KL.mono ?_; rintro e w' ⟨rfl, rfl⟩)
        exact ⟨rfl, rfl, rfl⟩
      · rw [if_neg h3] at KL ⊢
        by_cases h4 : 1048576 < n
        · rw [if_pos h4] at KL ⊢
          go_enter Try.func32, Try.ntmps32
          go_wp2_with (go_at_call 38; refine KL.mono ?_; rintro e w' ⟨rfl, rfl⟩)
          exact ⟨rfl, rfl, rfl⟩
        · rw [if_neg h4] at KL ⊢
          by_cases h5 : n < 56
          · rw [if_pos h5] at KL ⊢
            go_enter Try.func32, Try.ntmps32
            go_wp2_with (go_at_call 38; refine KL.mono ?_; rintro e w' ⟨rfl, rfl⟩)
            exact ⟨rfl, rfl, rfl⟩
          · rw [if_neg h5] at KL ⊢
            by_cases h6 : e - (p + 1 + k) < n
            · rw [if_pos h6]
              have i6 : (e : Int) - ((p : Int) + 1 + k) < n := by omega
              go_enter Try.func32, Try.ntmps32
              go_wp2_with (first | (go_at_call 38; refine KL.mono ?_; rintro e w' ⟨rfl, rfl⟩) | (go_at_call 26; refine (KG 50).mono ?_; rintro e w' ⟨rfl, rfl⟩))
              exact ⟨rfl, rfl, rfl⟩
            · rw [if_neg h6]
              have i6 : ¬ (e : Int) - ((p : Int) + 1 + k) < n := by omega
              go_enter Try.func32, Try.ntmps32
              go_wp2_with (go_at_call 38; refine KL.mono ?_; rintro e w' ⟨rfl, rfl⟩)
              go_ret2
              exact ⟨rfl, rfl⟩
end Go.Proofs.Ytledfigfokoiiaa
