import Derived.Test.YtledfigfokoiiaaLieq
/-
  Giving up; a head read.
-/
namespace Go.Proofs.Ytledfigfokoiiaa
open Go.RowKit
/-- a fault as it is raised -/
def flt (p c : Nat) : PanicEntry := { v := .iface 54 (.agg #[.int .i64 p, .int .i64 c]), recovered := false }
set_option maxRecDepth 100000 in
set_option maxHeartbeats 800000 in
theorem giveUp_any (w : World) (p c : Nat) : Calls Try.prog 26 #[.int .i64 p, .int .i64 c] w fun e w' => e = .panicked [flt p c] ∧ w' = w := by
  go_enter Try.func26, Try.ntmps26
  go_wp2_with fail
  exact ⟨rfl, rfl, rfl⟩
theorem slice_both (a : Option Addr) (n c l h : Nat) (h1 : l ≤ h) (h2 : h ≤ c) (w : World) : (Instr.slice 23 (.slice a n c) (some (.int .i64 l)) (some (.int .i64 h)) none).run Try.prog w = .ok (.slice (behind a c l) (h - l) (c - l)) w := by
  rw [run_slice_lh w 23 a n c (by rw [elem24]; exact Try.underlying23) .i64 .i64 l h (by omega) (by omega) (by omega), elem24, size5]
  simp only [Result.andThen, sliced, behind]
  simp
/-- the first e of the bytes s -/
structure Vp (w : World) (a : Option Addr) (b off e c : Nat) (s : List Nat) : Prop where
  view : View w a b off e (fun i => ((gd s i : Nat) : Int))
  len : e ≤ s.length
  cap : e ≤ c
  small : s.length ≤ 1048576
  ok : ∀ x ∈ s, x < 256
theorem Vp.keep {w w' : World} {a : Option Addr} {b off e c : Nat} {s : List Nat} (h : Vp w a b off e c s) (k : Below w.heap.size w w') : Vp w' a b off e c s := ⟨h.view.below k, h.len, h.cap, h.small, h.ok⟩
theorem Vp.upto {w : World} {a : Option Addr} {b off e c z : Nat} {s : List Nat} (h : Vp w a b off e c s) (hz : z ≤ e) : Vp w a b off z c s :=
  ⟨⟨fun q => h.view.at_ (by omega), fun i hi => h.view.cell i (by omega), fun i hi => h.view.bd i (by omega), by have := h.view.len; omega⟩, by have := h.len; omega, by have := h.cap; omega, h.small, h.ok⟩
theorem Vp.cut {w : World} {a : Option Addr} {b off e c l z : Nat} {s : List Nat} (h : Vp w a b off e c s) (h1 : l ≤ z) (h2 : z ≤ e) : Vw w (behind a c l) b (off + l) (cut s l z) := by
  have hl : (Go.Proofs.Ytledfigfokoiiaa.cut s l z).length = z - l := cut_len (by have := h.len; omega)
  have hc := h.cap
  refine ⟨fun q => ?_, fun i hi => ?_, fun i hi => ?_, by rw [hl]; have := h.small; have := h.len; omega⟩
  · rw [hl] at q
    have := h.view.at_ (by omega)
    subst this
    unfold behind
    rw [if_neg (by omega)]
    simp [Go.WideShapes.add_plain]
  · rw [hl] at hi
    have := h.view.cell (l + i) (by omega)
    rw [cut_gd (by omega), Nat.add_assoc]
    exact this
  · rw [hl] at hi
    have := h.view.bd (l + i) (by omega)
    rw [cut_gd (by omega)]
    exact this
theorem Vp.cell {w : World} {a : Option Addr} {b off e c i : Nat} {s : List Nat} (h : Vp w a b off e c s) (hi : i < e) : a = some ⟨b, off, none⟩ ∧ w.cell? ⟨b, off + i, none⟩ = some (.int .u8 ((gd s i : Nat) : Int)) ∧ gd s i < 256 := ⟨h.view.at_ (by omega), h.view.cell i hi, gd_lt h.ok i⟩
/-- what a length's own bytes tell -/
def rdLen (s : List Nat) : Option Nat × Nat := if gd s 0 = 0 then (none, 52) else if 1048576 < num s then (none, 54) else if num s < 56 then (none, 52) else (some (num s), 0)
set_option maxRecDepth 100000 in
set_option maxHeartbeats 1600000 in
theorem readLength_any (w : World) (a : Option Addr) (b off c p : Nat) (s : List Nat) (hv : Vw w a b off s) (h0 : 0 < s.length) (h8 : s.length ≤ 8) :
    Calls Try.prog 38 #[.slice a s.length c, .int .i64 p] w fun e w' => w' = w ∧ match rdLen s with
      | (some n, _) => e = .returned (.int .i64 n)
      | (none, r) => e = .panicked [flt p r] := by
  obtain rfl := hv.at_ h0
  have c0 := hv.cell 0 h0
  rw [Nat.add_zero] at c0
  have K1 := numberOf_any w _ _ _ c s hv h8
  have KG := fun r => giveUp_any w p r
  have hx := gd_lt (vw_ok hv).2 0
  have hnum : num s < 18446744073709551616 := by
    have := num_lt (vw_ok hv).2
    have : 256 ^ s.length ≤ 256 ^ 8 := Nat.pow_le_pow_right (by decide) h8
    omega
  unfold rdLen
  by_cases hz : gd s 0 = 0
  · rw [if_pos hz]
    rw [hz] at c0
    generalize s.length = n at *
    clear hv hnum K1
    go_enter Try.func38, Try.ntmps38
    go_wp2_with (go_at_call 26; refine (KG 52).mono ?_; rintro e w' ⟨rfl, rfl⟩)
    exact ⟨rfl, rfl, rfl⟩
  · rw [if_neg hz]
    have hz' : ¬ ((gd s 0 : Nat) : Int) = 0 := by omega
    generalize hgx : gd s 0 = x at *
    clear hgx
    generalize num s = m at *
    have hl1 : 0 < s.length := h0
    generalize s.length = n at *
    clear hv
    by_cases h1 : 1048576 < m
    · rw [if_pos h1]
      have i1 : (1048576 : Int) < m := by omega
      go_enter Try.func38, Try.ntmps38
      go_wp2_with (first | (go_at_call 41; refine K1.mono ?_; rintro e w' ⟨rfl, rfl⟩) | (go_at_call 26; refine (KG 54).mono ?_; rintro e w' ⟨rfl, rfl⟩))
      exact ⟨rfl, rfl, rfl⟩
    · rw [if_neg h1]
      have i1 : ¬ (1048576 : Int) < m := by omega
      by_cases h2 : m < 56
      · rw [if_pos h2]
        have i2 : (m : Int) < 56 := by omega
        go_enter Try.func38, Try.ntmps38
        go_wp2_with (first | (go_at_call 41; refine K1.mono ?_; rintro e w' ⟨rfl, rfl⟩) | (go_at_call 26; refine (KG 52).mono ?_; rintro e w' ⟨rfl, rfl⟩))
        exact ⟨rfl, rfl, rfl⟩
      · rw [if_neg h2]
        have i2 : ¬ (m : Int) < 56 := by omega
        go_enter Try.func38, Try.ntmps38
        go_wp2_with (go_at_call 41; refine K1.mono ?_; rintro e w' ⟨rfl, rfl⟩)
        go_ret
        exact ⟨rfl, rfl⟩
end Go.Proofs.Ytledfigfokoiiaa
