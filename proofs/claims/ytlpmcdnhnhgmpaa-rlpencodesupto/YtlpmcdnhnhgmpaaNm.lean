/-
  Int and Number, the program's and the reference's.
-/
import Derived.Test.YtlpmcdnhnhgmpaaRsh
import Derived.Test.YtlpmcdnhnhgmpaaOg
namespace Go.Proofs.Ytlpmcdnhnhgmpaa
open Go.RowKit

/-- may the item be read as a number? -/
def intOk (x : It) : Bool := !x.l && (x.xs.length == 0) && decide (x.b.length ≤ 8) && !(decide (0 < x.b.length) && (gd x.b 0 == 0)) && !(decide (x.b.length = 8) && decide (128 ≤ gd x.b 0))
def intE (x : It) : Nat := if intOk x then 0 else 52
def intV (x : It) : Nat := if intOk x then num x.b else 0
theorem num_cons (x : Nat) (t : List Nat) : num (x :: t) = x * 256 ^ t.length + num t := by
  suffices ∀ (m : Nat) (t : List Nat), t.length = m → num (x :: t) = x * 256 ^ m + num t from this _ t rfl
  intro m
  induction m with
  | zero => intro t h
            obtain rfl : t = [] := List.eq_nil_of_length_eq_zero h
            simp [num]
  | succ m ih =>
    intro s hl
    obtain ⟨t, y, rfl⟩ : ∃ t y, s = t ++ [y] := ⟨s.dropLast, s.getLast (by intro e; simp [e] at hl), (List.dropLast_concat_getLast _).symm⟩
    have := ih t (by simpa using hl)
    rw [← List.cons_append, num_app1, num_app1, this, Nat.pow_succ]
    rw [Nat.add_mul, Nat.mul_assoc, Nat.add_assoc]
theorem num_le_take {s : List Nat} (i : Nat) : num (s.take i) ≤ num s := by
  suffices ∀ (m : Nat) (s : List Nat), s.length = m → num (s.take i) ≤ num s from this _ s rfl
  intro m
  induction m with
  | zero => intro s h
            obtain rfl : s = [] := List.eq_nil_of_length_eq_zero h
            simp
  | succ m ih =>
    intro s hl
    by_cases hi : s.length ≤ i
    · rw [List.take_of_length_le hi]; exact Nat.le_refl _
    · obtain ⟨t, y, rfl⟩ : ∃ t y, s = t ++ [y] := ⟨s.dropLast, s.getLast (by intro e; simp [e] at hl), (List.dropLast_concat_getLast _).symm⟩
      have := ih t (by simpa using hl)
      rw [List.take_append_of_le_length (by simp at hi; omega), num_app1]
      omega
/-- eight bytes: below 2^63 just if the first is below 128 -/
theorem num_big {s : List Nat} (hb : ∀ x ∈ s, x < 256) (h8 : s.length ≤ 8) : 9223372036854775807 < num s ↔ s.length = 8 ∧ 128 ≤ gd s 0 := by
  cases s with
  | nil => simp [num]
  | cons x t =>
    have ht := num_lt (s := t) (fun y hy => hb y (by simp [hy]))
    have hx := hb x (by simp)
    rw [num_cons, show gd (x :: t) 0 = x from rfl]
    simp only [List.length_cons] at h8 ⊢
    by_cases e : t.length = 7
    · rw [e] at ht ⊢
      have : (256 : Nat) ^ 7 = 72057594037927936 := by decide
      rw [this] at ht ⊢
      omega
    · have l6 : (256 : Nat) ^ t.length ≤ 256 ^ 6 := Nat.pow_le_pow_right (by decide) (by omega)
      have : (256 : Nat) ^ 6 = 281474976710656 := by decide
      rw [this] at l6
      have m1 : x * 256 ^ t.length ≤ 255 * 256 ^ t.length := Nat.mul_le_mul_right _ (by omega)
      constructor
      · intro q; omega
      · intro q; omega

set_option maxRecDepth 100000 in
set_option maxHeartbeats 3200000 in
theorem int_any (x : It) (w : World) (vb vi : Value) (h : Lies Vb w x vb vi) :
    Calls Try.prog 22 #[iv x.l vb vi] w fun e w' => e = .returned (.tuple #[.int .i64 (intV x), .int .i64 (intE x)]) ∧ Below w.heap.size w w' := by
  obtain ⟨l, b, xs⟩ := x
  obtain ⟨a', c', a, c, blk, off, rfl, rfl, hB, hI⟩ := h.opened
  obtain ⟨a2, b2, off2, c2, e2, hv, -, hnil, -⟩ := hB
  injection e2 with z1 z2 z3
  subst z1
  subst z3
  clear z2 h hI hnil
  show Calls Try.prog 22 #[iv l _ _] w _
  have hok := (vw_ok hv).2
  obtain ⟨n, en⟩ : ∃ n, n = xs.length := ⟨_, rfl⟩
  obtain ⟨nb, enb⟩ : ∃ n, n = b.length := ⟨_, rfl⟩
  have hin : intOk (.mk l b xs) = (!l && (n == 0) && decide (nb ≤ 8) && !(decide (0 < nb) && (gd b 0 == 0)) && !(decide (nb = 8) && decide (128 ≤ gd b 0))) := by rw [en, enb]; rfl
  have hbad : intOk (.mk l b xs) = false → intV (.mk l b xs) = 0 ∧ intE (.mk l b xs) = 52 := fun q => by
    unfold intV intE
    rw [q]
    exact ⟨rfl, rfl⟩
  have HNB : Hid (nb = b.length) := enb
  rw [← en, ← enb]
  cases l with
  | true =>
    have HR : Hid (intV (.mk true b xs) = 0 ∧ intE (.mk true b xs) = 52) := hbad (by rw [hin]; rfl)
    clear hbad hin hok hv en enb
    go_enter Try.func22, Try.ntmps22
    go_wp2_with fail
    go_ret2
    exact ⟨by rw [HR.out.1, HR.out.2]; rfl, below_alloc _ _⟩
  | false =>
    by_cases hn : n = 0
    · subst hn
      by_cases h8 : nb ≤ 8
      · have i8 : ¬ (8 : Int) < (nb : Int) := by omega
        have K := numberOf_any (w.alloc (.cells #[.bool false, .slice a' nb c', .slice a 0 c] 25)) a' b2 off2 c' b (hv.below (below_alloc _ _)) (by omega)
        rw [← enb] at K
        have hnl := num_big hok (by omega)
        rw [← enb] at hnl
        have hnl2 := num_lt hok
        have hnu : num b < 18446744073709551616 := Nat.lt_of_lt_of_le hnl2 (by
          have : (18446744073709551616 : Nat) = 256 ^ 8 := by decide
          rw [this]
          exact Nat.pow_le_pow_right (by decide) (by omega))
        by_cases h0 : nb = 0
        · have eb : b = [] := List.eq_nil_of_length_eq_zero (by omega)
          have HR : Hid (intV (.mk false b xs) = 0 ∧ intE (.mk false b xs) = 0) := by
            have : intOk (.mk false b xs) = true := by rw [hin, h0]; simp
            unfold intV intE
            rw [this]
            exact ⟨by rw [show (It.mk false b xs).b = b from rfl, eb]; rfl, rfl⟩
          have e0 : num b = 0 := by rw [eb]; rfl
          rw [e0] at K
          clear hbad hin hok hv en enb hnl hnl2 hnu e0 eb i8 h8
          subst h0
          go_enter Try.func22, Try.ntmps22
          go_wp2_with fail
          refine K.mono ?_
          rintro e w2 ⟨rfl, rfl⟩
          go_wp2_with fail
          go_ret2
          exact ⟨by rw [HR.out.1, HR.out.2]; rfl, below_alloc _ _⟩
        · have i0 : (0 : Int) < (nb : Int) := by omega
          obtain rfl := hv.at_ (by omega)
          have c0 := (hv.below (below_alloc w (.cells #[.bool false, .slice (some ⟨b2, off2, none⟩) nb c', .slice a 0 c] 25))).cell 0 (by omega)
          rw [Nat.add_zero] at c0
          obtain ⟨y, ey⟩ : ∃ y, y = gd b 0 := ⟨_, rfl⟩
          rw [← ey] at hin hnl c0
          by_cases hy : y = 0
          · have HR : Hid (intV (.mk false b xs) = 0 ∧ intE (.mk false b xs) = 52) := hbad (by rw [hin, hy]; simp; omega)
            clear hbad hin hok hv en enb hnl hnl2 hnu ey K
            subst hy
            go_enter Try.func22, Try.ntmps22
            go_wp2_with fail
            go_ret2
            exact ⟨by rw [HR.out.1, HR.out.2]; rfl, below_alloc _ _⟩
          · have iy : ¬ ((y : Int) = 0) := by omega
            have iyb : ((y : Int) == 0) = false := by simpa using iy
            have iyn : (y == 0) = false := by simpa using hy
            by_cases hbig : 9223372036854775807 < num b
            · have HR : Hid (intV (.mk false b xs) = 0 ∧ intE (.mk false b xs) = 52) := hbad (by
                obtain ⟨q1, q2⟩ := hnl.1 hbig
                rw [hin, q1]; simp; omega)
              have ib : (9223372036854775807 : Int) < (num b : Int) := by omega
              clear hbad hin hok hv en enb hnl hnl2 ey hy iyn
              generalize num b = M at *
              go_enter Try.func22, Try.ntmps22
              go_wp2_with fail
              refine K.mono ?_
              rintro e w2 ⟨rfl, rfl⟩
              go_wp2_with fail
              go_ret2
              exact ⟨by rw [HR.out.1, HR.out.2]; rfl, below_alloc _ _⟩
            · have HR : Hid (intV (.mk false b xs) = num b ∧ intE (.mk false b xs) = 0) := by
                have q := mt hnl.2 hbig
                have : intOk (.mk false b xs) = true := by
                  rw [hin, iyn]
                  simp only [Bool.not_false, BEq.rfl, Bool.and_self, Bool.and_false, Bool.and_true]
                  simp only [Bool.true_and, Bool.and_eq_true, Bool.not_eq_true', decide_eq_true_eq, Bool.and_eq_false_iff, decide_eq_false_iff_not]
                  omega
                unfold intV intE
                rw [this]
                exact ⟨rfl, rfl⟩
              have ib : ¬ (9223372036854775807 : Int) < (num b : Int) := by omega
              clear hbad hin hok hv en enb hnl hnl2 ey hy iyn
              obtain ⟨M, eM⟩ : ∃ M, M = num b := ⟨_, rfl⟩
              have HM : Hid (M = num b) := eM
              rw [← eM] at ib K hbig
              have hM : M ≤ 9223372036854775807 := by omega
              clear eM hnu
              go_enter Try.func22, Try.ntmps22
              go_wp2_with fail
              refine K.mono ?_
              rintro e w2 ⟨rfl, rfl⟩
              go_wp2_with fail
              go_ret2
              exact ⟨by rw [HR.out.1, HR.out.2, ← HM.out]; rfl, below_alloc _ _⟩
      · have i8 : (8 : Int) < (nb : Int) := by omega
        have HR : Hid (intV (.mk false b xs) = 0 ∧ intE (.mk false b xs) = 52) := hbad (by rw [hin]; simp; omega)
        clear hbad hin hok hv en enb
        go_enter Try.func22, Try.ntmps22
        go_wp2_with fail
        go_ret2
        exact ⟨by rw [HR.out.1, HR.out.2]; rfl, below_alloc _ _⟩
    · have i8 : (0 : Int) < (n : Int) := by omega
      have HR : Hid (intV (.mk false b xs) = 0 ∧ intE (.mk false b xs) = 52) := hbad (by rw [hin]; simp [hn])
      clear hbad hin hok hv en enb
      go_enter Try.func22, Try.ntmps22
      go_wp2_with fail
      go_ret2
      exact ⟨by rw [HR.out.1, HR.out.2]; rfl, below_alloc _ _⟩
end Go.Proofs.Ytlpmcdnhnhgmpaa
