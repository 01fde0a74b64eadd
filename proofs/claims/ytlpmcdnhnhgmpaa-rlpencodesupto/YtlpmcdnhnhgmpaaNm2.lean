/-
  cairnref05.Int; Number, the program's and the reference's.
-/
import Derived.Test.YtlpmcdnhnhgmpaaNm
import Derived.Test.YtlpmcdnhnhgmpaaEnc
namespace Go.Proofs.Ytlpmcdnhnhgmpaa
open Go.RowKit

set_option maxRecDepth 100000 in
set_option maxHeartbeats 3200000 in
theorem rint_any (x : It) (w : World) (vb vi : Value) (h : Lies Vb w x vb vi) :
    Calls Try.prog 20 #[iv x.l vb vi] w fun e w' => e = .returned (.tuple #[.int .i64 (intV x), .int .i64 (intE x)]) ∧ Below w.heap.size w w' := by
  obtain ⟨l, b, xs⟩ := x
  obtain ⟨a', c', a, c, blk, off, rfl, rfl, hB, hI⟩ := h.opened
  obtain ⟨a2, b2, off2, c2, e2, hv, -, hnil, -⟩ := hB
  injection e2 with z1 z2 z3
  subst z1
  subst z3
  clear z2 h hI hnil
  show Calls Try.prog 20 #[iv l _ _] w _
  have hok := (vw_ok hv).2
  obtain ⟨n, en⟩ : ∃ n, n = xs.length := ⟨_, rfl⟩
  obtain ⟨nb, enb⟩ : ∃ n, n = b.length := ⟨_, rfl⟩
  have hin : intOk (.mk l b xs) = (!l && (n == 0) && decide (nb ≤ 8) && !(decide (0 < nb) && (gd b 0 == 0)) && !(decide (nb = 8) && decide (128 ≤ gd b 0))) := by rw [en, enb]; rfl
  have hbad : intOk (.mk l b xs) = false → intV (.mk l b xs) = 0 ∧ intE (.mk l b xs) = 52 := fun q => by
    unfold intV intE
    rw [q]
    exact ⟨rfl, rfl⟩
  have HNB : Hid (nb = b.length) := enb
  rw [← en, ← enb]
  cases l with
  | true =>
    have HR : Hid (intV (.mk true b xs) = 0 ∧ intE (.mk true b xs) = 52) := hbad (by rw [hin]; rfl)
    clear hbad hin hok hv en enb
    go_enter Try.func20, Try.ntmps20
    go_wp2_with fail
    go_ret2
    exact ⟨by rw [HR.out.1, HR.out.2]; rfl, below_alloc _ _⟩
  | false =>
    by_cases hn : n = 0
    · subst hn
      by_cases h8 : nb ≤ 8
      · have i8 : ¬ (8 : Int) < (nb : Int) := by omega
        obtain ⟨W, eW⟩ : ∃ W, W = w.alloc (.cells #[.bool false, .slice a' nb c', .slice a 0 c] 34) := ⟨_, rfl⟩
        have bW : Below w.heap.size w W := by rw [eW]; exact below_alloc _ _
        have hvW : Vw W a' b2 off2 b := hv.below bW
        have HW : Hid (W = w.alloc (.cells #[.bool false, .slice a' nb c', .slice a 0 c] 34) ∧ Below w.heap.size w W ∧ Vw W a' b2 off2 b) := ⟨eW, bW, hvW⟩
        have hnl := num_big hok (by omega)
        rw [← enb] at hnl
        by_cases h0 : nb = 0
        · have eb : b = [] := List.eq_nil_of_length_eq_zero (by omega)
          have HR : Hid (intV (.mk false b xs) = 0 ∧ intE (.mk false b xs) = 0) := by
            have : intOk (.mk false b xs) = true := by rw [hin, h0]; simp
            unfold intV intE
            rw [this]
            exact ⟨by rw [show (It.mk false b xs).b = b from rfl, eb]; rfl, rfl⟩
          clear hbad hin hok hv en enb hnl eb i8 h8 HW eW bW hvW
          subst h0
          go_enter Try.func20, Try.ntmps20
          go_wp2_with fail
          go_loopg [4, 50] 0 (fun gg u k wr => gg = 0 ∧ u = .int .i64 0 ∧ k = .int .i64 0 ∧ Below w.heap.size w wr)
          case atStart => exact ⟨rfl, rfl, rfl, below_alloc _ _⟩
          case round =>
            obtain ⟨rfl, rfl, rfl, hb⟩ := hrel
            have HB : Hid (Below w.heap.size w wr) := hb
            clear hb
            go_wp2_with fail
            go_ret2
            exact ⟨by rw [HR.out.1, HR.out.2]; rfl, HB.out⟩
        · have i0 : (0 : Int) < (nb : Int) := by omega
          obtain rfl := hv.at_ (by omega)
          have c0 := (hv.below (below_alloc w (.cells #[.bool false, .slice (some ⟨b2, off2, none⟩) nb c', .slice a 0 c] 34))).cell 0 (by omega)
          rw [Nat.add_zero] at c0
          obtain ⟨y, ey⟩ : ∃ y, y = gd b 0 := ⟨_, rfl⟩
          rw [← ey] at hin hnl c0
          by_cases hy : y = 0
          · have HR : Hid (intV (.mk false b xs) = 0 ∧ intE (.mk false b xs) = 52) := hbad (by rw [hin, hy]; simp; omega)
            clear hbad hin hok hv en enb hnl ey HW eW bW hvW
            subst hy
            go_enter Try.func20, Try.ntmps20
            go_wp2_with fail
            go_ret2
            exact ⟨by rw [HR.out.1, HR.out.2]; rfl, below_alloc _ _⟩
          · have iy : ¬ ((y : Int) = 0) := by omega
            have iyb : ((y : Int) == 0) = false := by simpa using iy
            have iyn : (y == 0) = false := by simpa using hy
            by_cases hbig : nb = 8 ∧ 128 ≤ y
            · obtain ⟨q1, q2⟩ := hbig
              have HR : Hid (intV (.mk false b xs) = 0 ∧ intE (.mk false b xs) = 52) := hbad (by rw [hin, q1]; simp; omega)
              have ib : (128 : Int) ≤ (y : Int) := by omega
              clear hbad hin hok hv en enb hnl ey hy iyn HW eW bW hvW
              subst q1
              go_enter Try.func20, Try.ntmps20
              go_wp2_with fail
              go_ret2
              exact ⟨by rw [HR.out.1, HR.out.2]; rfl, below_alloc _ _⟩
            · have hM : ¬ 9223372036854775807 < num b := fun q => hbig (hnl.1 q)
              have HR : Hid (intV (.mk false b xs) = num b ∧ intE (.mk false b xs) = 0) := by
                have : intOk (.mk false b xs) = true := by
                  rw [hin, iyn]
                  simp only [Bool.not_false, BEq.rfl, Bool.and_self, Bool.and_false, Bool.and_true]
                  simp only [Bool.true_and, Bool.and_eq_true, Bool.not_eq_true', decide_eq_true_eq, Bool.and_eq_false_iff, decide_eq_false_iff_not]
                  omega
                unfold intV intE
                rw [this]
                exact ⟨rfl, rfl⟩
              have HMB : Hid (num b ≤ 9223372036854775807) := by show _ ≤ _; omega
              have HOK : Hid (∀ x ∈ b, x < 256) := hok
              have KEY : ∀ (Q : Unit → Prop), Q () → Q () := fun _ h => h
              clear hbad hin hok hv enb hnl ey hy iyn hM en eW bW hvW
              by_cases h88 : nb = 8
              · subst h88
                have ib : ¬ (128 : Int) ≤ (y : Int) := by omega
                clear hbig h0
                go_enter Try.func20, Try.ntmps20
                go_wp2_with fail
                rw [← HW.out.1]
                go_loopg [4, 50] 8 (fun gg u k wr => ∃ i : Nat, i ≤ 8 ∧ gg = 8 - i ∧ u = .int .i64 (num (b.take i)) ∧ k = .int .i64 i ∧ wr = W)
                case atStart => exact ⟨0, Nat.zero_le _, rfl, rfl, rfl, rfl⟩
                case round =>
                  clear c0
                  obtain ⟨i, hi, rfl, rfl, rfl, ewr⟩ := hrel
                  subst ewr
                  by_cases hi8 : i < 8
                  · have i1 : (i : Int) < 8 := by omega
                    have c1 := HW.out.2.2.cell i (by have := HNB.out; omega)
                    have e2 : num (b.take (i + 1)) = num (b.take i) * 256 + gd b i := num_take (by have := HNB.out; omega)
                    have hle := num_le_take (s := b) (i + 1)
                    have hx := gd_lt HOK.out i
                    rw [e2] at hle
                    have HE : Hid (num (b.take (i + 1)) = num (b.take i) * 256 + gd b i) := e2
                    have hm := HMB.out
                    clear e2
                    generalize num (b.take i) = M at *
                    generalize gd b i = z at *
                    have hmz : M * 256 + z ≤ 9223372036854775807 := by omega
                    clear hle hm
                    go_wp2_with fail
                    go_roundg (8 - (i + 1))
                    case measure => omega
                    case rel => exact ⟨i + 1, hi8, rfl, by rw [HE.out]; go_num, by go_num, rfl⟩
                  · have e8 : i = 8 := by omega
                    have et : num (b.take i) = num b := by rw [List.take_of_length_le (by have := HNB.out; omega)]
                    rw [et]
                    subst e8
                    clear et
                    go_wp2_with fail
                    go_ret2
                    exact ⟨by rw [HR.out.1, HR.out.2]; rfl, HW.out.2.1⟩
              · have ib : ¬ (nb : Int) = 8 := by omega
                have ibb : ((nb : Int) == 8) = false := by simpa using ib
                clear hbig
                go_enter Try.func20, Try.ntmps20
                go_wp2_with fail
                rw [← HW.out.1]
                go_loopg [4, 50] nb (fun gg u k wr => ∃ i : Nat, i ≤ nb ∧ gg = nb - i ∧ u = .int .i64 (num (b.take i)) ∧ k = .int .i64 i ∧ wr = W)
                case atStart => exact ⟨0, Nat.zero_le _, rfl, rfl, rfl, rfl⟩
                case round =>
                  clear c0
                  obtain ⟨i, hi, rfl, rfl, rfl, ewr⟩ := hrel
                  subst ewr
                  by_cases hi8 : i < nb
                  · have i1 : (i : Int) < (nb : Int) := by omega
                    have c1 := HW.out.2.2.cell i (by have := HNB.out; omega)
                    have e2 : num (b.take (i + 1)) = num (b.take i) * 256 + gd b i := num_take (by have := HNB.out; omega)
                    have hle := num_le_take (s := b) (i + 1)
                    have hx := gd_lt HOK.out i
                    rw [e2] at hle
                    have HE : Hid (num (b.take (i + 1)) = num (b.take i) * 256 + gd b i) := e2
                    have hm := HMB.out
                    clear e2
                    generalize num (b.take i) = M at *
                    generalize gd b i = z at *
                    have hmz : M * 256 + z ≤ 9223372036854775807 := by omega
                    clear hle hm
                    go_wp2_with fail
                    go_roundg (nb - (i + 1))
                    case measure => omega
                    case rel => exact ⟨i + 1, hi8, rfl, by rw [HE.out]; go_num, by go_num, rfl⟩
                  · have i1 : ¬ (i : Int) < (nb : Int) := by omega
                    have et : num (b.take i) = num b := by rw [List.take_of_length_le (by have := HNB.out; omega)]
                    rw [et]
                    clear et
                    go_wp2_with fail
                    go_ret2
                    exact ⟨by rw [HR.out.1, HR.out.2]; rfl, HW.out.2.1⟩
      · have i8 : (8 : Int) < (nb : Int) := by omega
        have HR : Hid (intV (.mk false b xs) = 0 ∧ intE (.mk false b xs) = 52) := hbad (by rw [hin]; simp; omega)
        clear hbad hin hok hv en enb
        go_enter Try.func20, Try.ntmps20
        go_wp2_with fail
        go_ret2
        exact ⟨by rw [HR.out.1, HR.out.2]; rfl, below_alloc _ _⟩
    · have i8 : (0 : Int) < (n : Int) := by omega
      have HR : Hid (intV (.mk false b xs) = 0 ∧ intE (.mk false b xs) = 52) := hbad (by rw [hin]; simp [hn])
      clear hbad hin hok hv en enb
      go_enter Try.func20, Try.ntmps20
      go_wp2_with fail
      go_ret2
      exact ⟨by rw [HR.out.1, HR.out.2]; rfl, below_alloc _ _⟩
end Go.Proofs.Ytlpmcdnhnhgmpaa
