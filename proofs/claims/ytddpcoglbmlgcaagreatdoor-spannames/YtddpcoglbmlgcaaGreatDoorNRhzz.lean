import Derived.Test.YtddpcoglbmlgcaaGreatDoorNLiezz
/-
  Giving up; a head read.
-/
namespace Go.Proofs.YtddpcoglbmlgcaaGreatDoor
open Go.RowKit
/-- a fault as it is raised -/
def flt (p c : Nat) : PanicEntry := { v := .iface 164 (.agg #[.int .i64 p, .int .i64 c]), recovered := false }
set_option maxRecDepth 100000 in
set_option maxHeartbeats 800000 in
theorem giveUp_any (w : World) (p c : Nat) : Calls Tryz.prog 93 #[.int .i64 p, .int .i64 c] w fun e w' => e = .panicked [flt p c] ∧ w' = w := by
  go_enter Tryz.func93, Tryz.ntmps93
  go_wp2_with fail
  exact ⟨rfl, rfl, rfl⟩
theorem slice_both (a : Option Addr) (n c l h : Nat) (h1 : l ≤ h) (h2 : h ≤ c) (w : World) : (Instr.slice 33 (.slice a n c) (some (.int .i64 l)) (some (.int .i64 h)) none).run Tryz.prog w = .ok (.slice (behind a c l) (h - l) (c - l)) w := by
  rw [run_slice_lh w 33 a n c (by rw [elem24]; exact Tryz.underlying33) .i64 .i64 l h (by omega) (by omega) (by omega), elem24, size5]
  simp only [Result.andThen, sliced, behind]
  simp
/-- the first e of the bytes s -/
structure Vp (w : World) (a : Option Addr) (b off e c : Nat) (s : List Nat) : Prop where
  view : View w a b off e (fun i => ((gd s i : Nat) : Int))
  len : e ≤ s.length
  cap : e ≤ c
  small : s.length ≤ 1048576
  ok : ∀ x ∈ s, x < 256
theorem Vp.keep {w w' : World} {a : Option Addr} {b off e c : Nat} {s : List Nat} (h : Vp w a b off e c s) (k : Below w.heap.size w w') : Vp w' a b off e c s := ⟨h.view.below k, h.len, h.cap, h.small, h.ok⟩
theorem Vp.upto {w : World} {a : Option Addr} {b off e c z : Nat} {s : List Nat} (h : Vp w a b off e c s) (hz : z ≤ e) : Vp w a b off z c s :=
  ⟨⟨fun q => h.view.at_ (by omega), fun i hi => h.view.cell i (by omega), fun i hi => h.view.bd i (by omega), by have := h.view.len; omega⟩, by have := h.len; omega, by have := h.cap; omega, h.small, h.ok⟩
theorem Vp.cut {w : World} {a : Option Addr} {b off e c l z : Nat} {s : List Nat} (h : Vp w a b off e c s) (h1 : l ≤ z) (h2 : z ≤ e) : Vw w (behind a c l) b (off + l) (cut s l z) := by
  have hl : (Go.Proofs.YtddpcoglbmlgcaaGreatDoor.cut s l z).length = z - l := cut_len (by have := h.len; omega)
  have hc := h.cap
  refine ⟨fun q => ?_, fun i hi => ?_, fun i hi => ?_, by rw [hl]; have := h.small; have := h.len; omega⟩
  · rw [hl] at q
    have := h.view.at_ (by omega)
    subst this
    unfold behind
    rw [if_neg (by omega)]
    simp [Go.WideShapes.add_plain]
  · rw [hl] at hi
    have := h.view.cell (l + i) (by omega)
    rw [cut_gd (by omega), Nat.add_assoc]
    exact this
  · rw [hl] at hi
    have := h.view.bd (l + i) (by omega)
    rw [cut_gd (by omega)]
    exact this
theorem Vp.cell {w : World} {a : Option Addr} {b off e c i : Nat} {s : List Nat} (h : Vp w a b off e c s) (hi : i < e) : a = some ⟨b, off, none⟩ ∧ w.cell? ⟨b, off + i, none⟩ = some (.int .u8 ((gd s i : Nat) : Int)) ∧ gd s i < 256 := ⟨h.view.at_ (by omega), h.view.cell i hi, gd_lt h.ok i⟩
/-- what a length's own bytes tell -/
def rdLen (s : List Nat) : Option Nat × Nat := if gd s 0 = 0 then (none, 52) else if 1048576 < num s then (none, 54) else if num s < 56 then (none, 52) else (some (num s), 0)
set_option maxRecDepth 100000 in
set_option maxHeartbeats 1600000 in
theorem readLength_any (w : World) (a : Option Addr) (b off c p : Nat) (s : List Nat) (hv : Vw w a b off s) (h0 : 0 < s.length) (h8 : s.length ≤ 8) :
    Calls Tryz.prog 148 #[.slice a s.length c, .int .i64 p] w fun e w' => w' = w ∧ match rdLen s with
      | (some n, _) => e = .returned (.int .i64 n)
      | (none, r) => e = .panicked [flt p r] := by
  obtain rfl := hv.at_ h0
  have c0 := hv.cell 0 h0
  rw [Nat.add_zero] at c0
  have K1 := numberOf_any w _ _ _ c s hv h8
  have KG := fun r => giveUp_any w p r
  have hx := gd_lt (vw_ok hv).2 0
  have hnum : num s < 18446744073709551616 := by
    have := num_lt (vw_ok hv).2
    have : 256 ^ s.length ≤ 256 ^ 8 := Nat.pow_le_pow_right (by decide) h8
    omega
  unfold rdLen
  by_cases hz : gd s 0 = 0
  · rw [if_pos hz]
    rw [hz] at c0
    generalize s.length = n at *
    clear hv hnum K1
    go_enter Tryz.func148, Tryz.ntmps148
    go_wp2_with (go_at_call 93; refine (KG 52).mono ?_; rintro e w' ⟨rfl, rfl⟩)
    exact ⟨rfl, rfl, rfl⟩
  · rw [if_neg hz]
    have hz' : ¬ ((gd s 0 : Nat) : Int) = 0 := by omega
    generalize hgx : gd s 0 = x at *
    clear hgx
    generalize num s = m at *
    have hl1 : 0 < s.length := h0
    generalize s.length = n at *
    clear hv
    by_cases h1 : 1048576 < m
    · rw [if_pos h1]
      have i1 : (1048576 : Int) < m := by omega
      go_enter Tryz.func148, Tryz.ntmps148
      go_wp2_with (first | (go_at_call 158; refine K1.mono ?_; rintro e w' ⟨rfl, rfl⟩) | (go_at_call 93; refine (KG 54).mono ?_; rintro e w' ⟨rfl, rfl⟩))
      exact ⟨rfl, rfl, rfl⟩
    · rw [if_neg h1]
      have i1 : ¬ (1048576 : Int) < m := by omega
      by_cases h2 : m < 56
      · rw [if_pos h2]
        have i2 : (m : Int) < 56 := by omega
        go_enter Tryz.func148, Tryz.ntmps148
        go_wp2_with (first | (go_at_call 158; refine K1.mono ?_; rintro e w' ⟨rfl, rfl⟩) | (go_at_call 93; refine (KG 52).mono ?_; rintro e w' ⟨rfl, rfl⟩))
        exact ⟨rfl, rfl, rfl⟩
      · rw [if_neg h2]
        have i2 : ¬ (m : Int) < 56 := by omega
        go_enter Tryz.func148, Tryz.ntmps148
        go_wp2_with (go_at_call 158; refine K1.mono ?_; rintro e w' ⟨rfl, rfl⟩)
        go_ret
        exact ⟨rfl, rfl⟩
end Go.Proofs.YtddpcoglbmlgcaaGreatDoor
/-
  readHead.
-/
namespace Go.Proofs.YtddpcoglbmlgcaaGreatDoor
open Go.RowKit
set_option maxRecDepth 100000 in
set_option maxHeartbeats 1600000 in
theorem readHead_any (w : World) (a : Option Addr) (b off e c p base m : Nat) (s : List Nat) (hv : Vp w a b off e c s) (hp : p < e) (hg : gd s p = base + m) (hm : m < 64) :
    Calls Tryz.prog 123 #[.slice a e c, .int .i64 p, .int .u8 base] w fun r w' => w' = w ∧ match rdHead s p e m with
      | .ok x z => r = .returned (.tuple #[.int .i64 x, .int .i64 z])
      | .bad q => r = .panicked [flt p q] := by
  obtain ⟨rfl, c0, hx⟩ := hv.cell hp
  rw [hg] at c0
  have KG := fun r => giveUp_any w p r
  have he : e ≤ 1048576 := by have := hv.len; have := hv.small; omega
  have e1 : ((base + m : Nat) : Int) = (base : Int) + m := by omega
  rw [e1] at c0
  have eb : (base : Int) + m - base = m := by omega
  clear e1
  have hb256 : base + m < 256 := by omega
  unfold rdHead
  by_cases h1 : m < 56
  · rw [if_pos h1]
    have i1 : (m : Int) < 56 := by omega
    by_cases h2 : e - (p + 1) < m
    · rw [if_pos h2]
      have i2 : (e : Int) - ((p : Int) + 1) < m := by omega
      clear hv hg hx
      go_enter Tryz.func123, Tryz.ntmps123
      go_wp2_with (go_at_call 93; refine (KG 50).mono ?_; rintro e w' ⟨rfl, rfl⟩)
      exact ⟨rfl, rfl, rfl⟩
    · rw [if_neg h2]
      have i2 : ¬ (e : Int) - ((p : Int) + 1) < m := by omega
      clear hv hg hx
      go_enter Tryz.func123, Tryz.ntmps123
      go_wp2_with fail
      go_ret2
      exact ⟨rfl, rfl⟩
  · rw [if_neg h1]
    have i1 : ¬ (m : Int) < 56 := by omega
    by_cases h2 : e - (p + 1) < m - 55
    · rw [if_pos h2]
      have i2 : (e : Int) - ((p : Int) + 1) < (m : Int) - 55 := by omega
      clear hv hg hx
      go_enter Tryz.func123, Tryz.ntmps123
      go_wp2_with (go_at_call 93; refine (KG 50).mono ?_; rintro e w' ⟨rfl, rfl⟩)
      exact ⟨rfl, rfl, rfl⟩
    · rw [if_neg h2]
      have i2 : ¬ (e : Int) - ((p : Int) + 1) < (m : Int) - 55 := by omega
      obtain ⟨k, rfl⟩ : ∃ k, m = k + 55 := ⟨m - 55, by omega⟩
      rw [Nat.add_sub_cancel] at *
      have sb := slice_both (some ⟨b, off, none⟩) e c (p + 1) (p + 1 + k) (by omega) (by have := hv.cap; omega)
      have hc := hv.cut (l := p + 1) (z := p + 1 + k) (by omega) (by omega)
      have hcl : (cut s (p + 1) (p + 1 + k)).length = k := by rw [cut_len (by have := hv.len; omega)]; omega
      have KL := readLength_any w _ _ _ (c - (p + 1)) p _ hc (by omega) (by omega)
      have hg1 : gd (cut s (p + 1) (p + 1 + k)) 0 = gd s (p + 1) := by rw [cut_gd (by omega), Nat.add_zero]
      rw [hcl] at KL
      unfold rdLen at KL
      rw [hg1] at KL
      rw [show p + 1 + k - (p + 1) = k by omega] at sb
      generalize behind (some ⟨b, off, none⟩) c (p + 1) = bh at sb KL
      generalize num (cut s (p + 1) (p + 1 + k)) = n at *
      generalize gd s (p + 1) = x at *
      rw [show (((p + 1 : Nat)) : Int) = (p : Int) + 1 by omega, show (((p + 1 + k : Nat)) : Int) = (p : Int) + 1 + k by omega] at sb
      clear hv hg hx hc hcl hg1
      have eb2 : (base : Int) + ((k : Int) + 55) - base = (k : Int) + 55 := by omega
      have ek : ((k + 55 : Nat) : Int) = (k : Int) + 55 := by omega
      have ek2 : (k : Int) + 55 - 55 = (k : Int) := by omega
      rw [ek] at c0 i1 i2
      clear ek eb
      by_cases h3 : x = 0
      · rw [if_pos h3] at KL ⊢
        go_enter Tryz.func123, Tryz.ntmps123
        go_wp2_with (go_at_call 148; refine KL.mono ?_; rintro e w' ⟨rfl, rfl⟩)
        exact ⟨rfl, rfl, rfl⟩
      · rw [if_neg h3] at KL ⊢
        by_cases h4 : 1048576 < n
        · rw [if_pos h4] at KL ⊢
          go_enter Tryz.func123, Tryz.ntmps123
          go_wp2_with (go_at_call 148; refine KL.mono ?_; rintro e w' ⟨rfl, rfl⟩)
          exact ⟨rfl, rfl, rfl⟩
        · rw [if_neg h4] at KL ⊢
          by_cases h5 : n < 56
          · rw [if_pos h5] at KL ⊢
            go_enter Tryz.func123, Tryz.ntmps123
            go_wp2_with (go_at_call 148; refine KL.mono ?_; rintro e w' ⟨rfl, rfl⟩)
            exact ⟨rfl, rfl, rfl⟩
          · rw [if_neg h5] at KL ⊢
            by_cases h6 : e - (p + 1 + k) < n
            · rw [if_pos h6]
              have i6 : (e : Int) - ((p : Int) + 1 + k) < n := by omega
              go_enter Tryz.func123, Tryz.ntmps123
              go_wp2_with (first | (go_at_call 148; refine KL.mono ?_; rintro e w' ⟨rfl, rfl⟩) | (go_at_call 93; refine (KG 50).mono ?_; rintro e w' ⟨rfl, rfl⟩))
              exact ⟨rfl, rfl, rfl⟩
            · rw [if_neg h6]
              have i6 : ¬ (e : Int) - ((p : Int) + 1 + k) < n := by omega
              go_enter Tryz.func123, Tryz.ntmps123
              go_wp2_with (go_at_call 148; refine KL.mono ?_; rintro e w' ⟨rfl, rfl⟩)
              go_ret2
              exact ⟨rfl, rfl⟩
end Go.Proofs.YtddpcoglbmlgcaaGreatDoor
