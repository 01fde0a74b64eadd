/-
  PathBack: the calls as the law meets them.
-/
import Derived.Test.YtdjbideobdaamaaCl
namespace Go.Proofs.Ytdjbideobdaamaa
open Go.RowKit

/-- the path that the law makes of whatever bytes -/
def s1 (s : List Nat) (m : Nat) : List Nat := lst m (fun i => gd s i % 16)
theorem s1_len (s : List Nat) (m : Nat) : (s1 s m).length = m := lst_len _ _
theorem s1_path (s : List Nat) (m : Nat) (h : m ≤ 64) : IsP (s1 s m) := ⟨by rw [s1_len]; exact h, fun i hi => by
  rw [s1_len] at hi
  unfold s1
  rw [lst_gd hi]
  omega⟩
theorem s1_vals (s : List Nat) (m : Nat) : vals (fun i => ((gd s i % 16 : Nat) : Int)) m = bv (s1 s m) := by
  rw [← vals_bv, s1_len]
  refine vals_congr (fun i hi => ?_)
  unfold s1
  rw [lst_gd hi]

theorem pack_ok {w : World} {v : Value} {s : List Nat} (leaf : Bool) (h : Vb w v s) (hp : IsP s) :
    Calls Try.prog 6 #[v, .bool leaf] w fun e w' => ∃ g c, e = .returned (.tuple #[.slice (some ⟨g, 0, none⟩) (1 + s.length / 2) c, .int .i64 0]) ∧ 1 + s.length / 2 ≤ c ∧ Ans w w' (.slice (some ⟨g, 0, none⟩) (1 + s.length / 2) c) (pkL leaf s) := by
  refine (pack_vb leaf h).mono ?_
  rintro e w' ⟨u, rfl, ha⟩
  rw [show pkR leaf s = pkL leaf s from if_pos hp] at ha
  have hv := ha
  obtain ⟨a, g, c, rfl, hw, hc, _⟩ := ha.view
  obtain rfl := hw.at_ (by rw [pkL_len]; omega)
  rw [pkL_len] at hv hc
  rw [show pkE s = 0 from if_pos hp, pkL_len]
  exact ⟨g, c, rfl, hc, hv⟩
theorem unpack_pk {w : World} {v : Value} {s : List Nat} {leaf : Bool} (h : Vb w v (pkL leaf s)) (hp : IsP s) :
    Calls Try.prog 9 #[v] w fun e w' => ∃ u, e = .returned (.tuple #[u, .bool leaf, .int .i64 0]) ∧ Ans w w' u s := by
  obtain ⟨h1, h2, h3⟩ := pk_up leaf hp
  refine (unpack_vb h).mono ?_
  rintro e w' ⟨u, rfl, ha⟩
  rw [show upR (pkL leaf s) = upL (pkL leaf s) from if_pos h1, h2] at ha
  exact ⟨u, by rw [show upI (pkL leaf s) = lf (pkL leaf s) from if_pos h1, h3, show upE (pkL leaf s) = 0 from if_pos h1]; rfl, ha⟩
theorem unpack_t {w : World} {v : Value} {t : List Nat} (h : Vb w v t) (hp : IsF t) :
    Calls Try.prog 9 #[v] w fun e w' => ∃ u, e = .returned (.tuple #[u, .bool (lf t), .int .i64 0]) ∧ Ans w w' u (upL t) := by
  refine (unpack_vb h).mono ?_
  rintro e w' ⟨u, rfl, ha⟩
  rw [show upR t = upL t from if_pos hp] at ha
  exact ⟨u, by rw [show upI t = lf t from if_pos hp, show upE t = 0 from if_pos hp]; rfl, ha⟩
theorem unpack_f {w : World} {v : Value} {t : List Nat} (h : Vb w v t) (hp : ¬ IsF t) :
    Calls Try.prog 9 #[v] w fun e w' => e = .returned (.tuple #[.slice none 0 0, .bool false, .int .i64 60]) ∧ w' = w := by
  obtain ⟨a, b, off, c, rfl, hv, hc, _⟩ := h
  exact unpack_no w a b off c t hv hp
/-- what stands behind a form's first byte -/
def tl (s : List Nat) : List Nat := lst (s.length / 2) (fun i => pkY true s (1 + i))
theorem ans_tail {w w' : World} {g c : Nat} {s : List Nat} {leaf : Bool} (hp : IsP s) (hc : 1 + s.length / 2 ≤ c) (h : Ans w w' (.slice (some ⟨g, 0, none⟩) (1 + s.length / 2) c) (pkL leaf s)) : Vb w' (.slice (behind (some (⟨g, 0, none⟩ : Addr)) c 1) (1 + s.length / 2 - 1) (c - 1)) (tl s) := by
  obtain ⟨a, g', c', e, hv, _, _⟩ := h.view
  injection e with e1 e2 e3
  subst e3
  have e4 := hv.at_ (by rw [pkL_len]; omega)
  rw [← e1] at e4
  injection e4 with e4
  injection e4 with e4
  subst e4
  have hl := hp.1
  refine ⟨behind (some (⟨g, 0, none⟩ : Addr)) c 1, g, 1, c - 1, ?_, ?_, by unfold tl; rw [lst_len]; omega, fun z => ?_, by unfold tl; rw [lst_len]; omega⟩
  · unfold tl
    rw [lst_len, Nat.add_sub_cancel_left]
  · refine vw_of ⟨fun q => ?_, fun i hi => ?_, fun i hi => ?_, by omega⟩
    · unfold behind
      rw [if_neg (by omega)]
      rfl
    · have := hv.cell (1 + i) (by rw [pkL_len]; omega)
      rw [pkL_gd (by omega), pk_next] at this
      rw [Nat.zero_add] at this
      show w'.cell? ⟨g, 1 + i, none⟩ = some (.int .u8 ((pkY true s (1 + i) : Nat) : Int))
      rw [pk_next]
      exact this
    · have := pkY_lt true hp.2 (1 + i)
      show 0 ≤ ((pkY true s (1 + i) : Nat) : Int) ∧ ((pkY true s (1 + i) : Nat) : Int) ≤ 255
      omega
  · unfold behind at z
    split at z <;> cases z
theorem ans_first {w w' : World} {g c : Nat} {s : List Nat} {leaf : Bool} (h : Ans w w' (.slice (some ⟨g, 0, none⟩) (1 + s.length / 2) c) (pkL leaf s)) : w'.cell? ⟨g, 0, none⟩ = some (.int .u8 ((pkY leaf s 0 : Nat) : Int)) := by
  have := h.own.cells (g := g) rfl 0 _ (bv_at (by rw [pkL_len]; omega))
  rw [pkL_gd (by omega), add_flat] at this
  exact this
theorem pk_firsts {s : List Nat} (h : IsP s) : pkY true s 0 = pkY false s 0 + 32 ∧ pkY false s 0 ≤ 31 := by
  have g0 : gd s 0 ≤ 15 := by
    by_cases q : 0 < s.length
    · exact h.2 0 q
    · rw [gd_out (by omega)]; decide
  rw [pk_first, pk_first]
  constructor
  · simp only [if_true, Bool.false_eq_true, if_false]
    omega
  · simp only [Bool.false_eq_true, if_false]
    split <;> omega
end Go.Proofs.Ytdjbideobdaamaa
