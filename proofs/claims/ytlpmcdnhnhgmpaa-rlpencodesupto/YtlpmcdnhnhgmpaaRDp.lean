/-
  cairnref05: Deep, May; cairnlaw05: marked.
-/
import Derived.Test.YtlpmcdnhnhgmpaaOg
import Derived.Test.YtlpmcdnhnhgmpaaMb
namespace Go.Proofs.Ytlpmcdnhnhgmpaa
open Go.RowKit

set_option maxRecDepth 100000 in
set_option maxHeartbeats 1600000 in
theorem rdeep_any : ∀ (x : It) (w : World) (vb vi : Value) (m : Nat), Lies Vb w x vb vi → m ≤ 81 →
    Calls Try.prog 37 #[iv x.l vb vi, .int .i64 m] w fun e w' => ∃ D : Nat, e = .returned (.int .i64 D) ∧ (m ≤ D ∧ D ≤ 81 ∧ (80 < D ↔ 80 < m + dp x)) ∧ Below w.heap.size w w' := by
  refine It.ind (fun l b xs ih => ?_)
  intro w vb vi m h hm
  obtain ⟨a', c', a, c, blk, off, rfl, rfl, -, hI⟩ := h.opened
  show Calls Try.prog 37 #[iv l _ _, _] w _
  generalize b.length = nb
  cases l with
  | false =>
    have e0 : dp (.mk false b xs) = 0 := by rw [dp_mk]; simp
    rw [e0]
    clear ih hI h e0
    go_enter Try.func37, Try.ntmps37
    go_wp2_with fail
    go_ret
    exact ⟨m, rfl, ⟨Nat.le_refl _, hm, by omega⟩, below_alloc _ _⟩
  | true =>
    have e0 : dp (.mk true b xs) = 1 + dpL xs := by rw [dp_mk]; simp
    rw [e0]
    by_cases h0 : 80 < m
    · have i0 : (80 : Int) < m := by omega
      clear ih hI h e0
      go_enter Try.func37, Try.ntmps37
      go_wp2_with fail
      go_ret
      exact ⟨m, rfl, ⟨Nat.le_refl _, hm, by omega⟩, below_alloc _ _⟩
    · obtain ⟨n, en⟩ : ∃ n, n = xs.length := ⟨_, rfl⟩
      have HN : Hid (n = xs.length) := en
      have hn := hI.hn
      rw [← en] at hn ⊢
      have i0 : ¬ (80 : Int) < m := by omega
      have HI : Hid (Its Vb w xs a blk off) := hI
      clear hI e0 en h
      go_enter Try.func37, Try.ntmps37
      go_wp2_with fail
      go_loopg [5, 21] n (fun gg u k wr => ∃ (i M : Nat), i ≤ n ∧ gg = n - i ∧ u = .int .i64 M ∧ k = .int .i64 i ∧ Below w.heap.size w wr ∧ m + 1 ≤ M ∧ M ≤ 81 ∧ (80 < M ↔ 80 < m + 1 + dpL (xs.take i)))
      case atStart => exact ⟨0, m + 1, Nat.zero_le _, rfl, by go_num, rfl, below_alloc _ _, Nat.le_refl _, by omega, by rw [List.take_zero, dpL_nil]⟩
      case round =>
        obtain ⟨i, M, hi, rfl, rfl, rfl, hb, hM1, hM2, hM3⟩ := hrel
        have HM : Hid (80 < M ↔ 80 < m + 1 + dpL (xs.take i)) := hM3
        by_cases hin : i < n
        · have i1 : (i : Int) < (n : Int) := by omega
          obtain ⟨rfl, x, a1, n1, k1, a2, n2, k2, hx, hxm, d0, d1, d2, hL⟩ := HI.out.nth hb (i := i) (by have := HN.out; omega)
          have K := ih x hxm _ _ _ (m + 1) (hL.keep (below_alloc _ (.cells #[.bool x.l, .slice a1 n1 k1, .slice a2 n2 k2] 34))) (by omega)
          rw [show (((m + 1 : Nat) : Int)) = (m : Int) + 1 by omega] at K
          have tk : dpL (xs.take (i + 1)) = max (dpL (xs.take i)) (dp x) := by
            obtain ⟨hi', rfl⟩ := List.getElem?_eq_some_iff.1 hx
            rw [List.take_succ_eq_append_getElem hi', dpL_app, dpL_cons, dpL_nil]
            omega
          have HX : Hid (dpL (xs.take (i + 1)) = max (dpL (xs.take i)) (dp x) ∧ Below w.heap.size w wr) := ⟨tk, hb⟩
          clear hx hxm hL hb ih tk hM3
          go_wp2_with (go_at_call 37; refine K.mono ?_; rintro e w1 ⟨D, rfl, ⟨hD1, hD2, hD3⟩, hb1⟩; have HB : Hid (Below w.heap.size w w1 ∧ (80 < D ↔ 80 < m + 1 + dp x)) := ⟨ch3 HX.out.2 hb1, hD3⟩; clear hb1 hD3)
          · go_roundg (n - (i + 1))
            case measure => omega
            case rel =>
              have h1 := HM.out
              have h2 := HB.out.2
              have h3 := HX.out.1
              exact ⟨i + 1, D, hin, rfl, rfl, by go_num, HB.out.1, by omega, by omega, by rw [h3]; omega⟩
          · go_roundg (n - (i + 1))
            case measure => omega
            case rel =>
              have h1 := HM.out
              have h2 := HB.out.2
              have h3 := HX.out.1
              exact ⟨i + 1, M, hin, rfl, rfl, by go_num, HB.out.1, by omega, by omega, by rw [h3]; omega⟩
        · have i1 : ¬ (i : Int) < (n : Int) := by omega
          have et : xs.take i = xs := List.take_of_length_le (by have := HN.out; omega)
          rw [et] at hM3
          have HB : Hid (Below w.heap.size w wr ∧ (80 < M ↔ 80 < m + 1 + dpL xs)) := ⟨hb, hM3⟩
          clear hb ih hM3 et
          go_wp2_with fail
          go_ret
          refine ⟨M, rfl, ⟨by omega, hM2, ?_⟩, HB.out.1⟩
          have := HB.out.2
          omega

set_option maxRecDepth 100000 in
set_option maxHeartbeats 1600000 in
theorem rmay_any : ∀ (x : It) (w : World) (vb vi : Value), Lies Vb w x vb vi →
    Calls Try.prog 38 #[iv x.l vb vi] w fun e w' => e = .returned (.bool (may x)) ∧ Below w.heap.size w w' := by
  refine It.ind (fun l b xs ih => ?_)
  intro w vb vi h
  obtain ⟨a', c', a, c, blk, off, rfl, rfl, -, hI⟩ := h.opened
  show Calls Try.prog 38 #[iv l _ _] w _
  obtain ⟨n, en⟩ : ∃ n, n = xs.length := ⟨_, rfl⟩
  have HN : Hid (n = xs.length) := en
  obtain ⟨nb, enb⟩ : ∃ n, n = b.length := ⟨_, rfl⟩
  have HNB : Hid (nb = b.length) := enb
  have hn := hI.hn
  rw [← en] at hn ⊢
  rw [← enb]
  have HI : Hid (Its Vb w xs a blk off) := hI
  clear hI en enb h
  cases l with
  | false =>
    have e0 : may (.mk false b xs) = decide (n = 0) := by
      rw [may_mk, HN.out]; cases xs <;> simp
    rw [e0]
    by_cases h0 : n = 0
    · subst h0
      go_enter Try.func38, Try.ntmps38
      go_wp2_with fail
      go_ret
      exact ⟨rfl, below_alloc _ _⟩
    · have i0 : ¬ (n : Int) = 0 := by omega
      have i0b : ((n : Int) == 0) = false := by simpa using i0
      rw [decide_eq_false h0]
      go_enter Try.func38, Try.ntmps38
      go_wp2_with fail
      go_ret
      exact ⟨rfl, below_alloc _ _⟩
  | true =>
    obtain ⟨w1, ew1⟩ : ∃ w1, w1 = w.alloc (.cells #[.bool true, .slice a' nb c', .slice a n c] 34) := ⟨_, rfl⟩
    have HBX : Hid (∀ wr, Below w1.heap.size w1 wr → wr.cell? ⟨w.heap.size, 1, none⟩ = some (.slice a' nb c')) := fun wr h => by
      rw [ew1] at h
      exact (box_keep h).2.1
    have HW1 : Hid (Below w.heap.size w w1 ∧ w1 = w.alloc (.cells #[.bool true, .slice a' nb c', .slice a n c] 34)) := ⟨by rw [ew1]; exact below_alloc _ _, ew1⟩
    clear ew1
    go_enter Try.func38, Try.ntmps38
    go_wp2_with fail
    rw [← HW1.out.2]
    go_loopg [15] n (fun gg k wr => ∃ (i : Nat), i ≤ n ∧ gg = n - i ∧ k = .int .i64 i ∧ Below w1.heap.size w1 wr ∧ ∀ j x, j < i → xs[j]? = some x → may x = true)
    case atStart => exact ⟨0, Nat.zero_le _, rfl, rfl, Below.refl _ _, fun j x hj => by omega⟩
    case round =>
      obtain ⟨i, hi, rfl, rfl, hb, hd⟩ := hrel
      by_cases hin : i < n
      · have i1 : (i : Int) < (n : Int) := by omega
        obtain ⟨rfl, x, a1, n1, k1, a2, n2, k2, hx, hxm, d0, d1, d2, hL⟩ := HI.out.nth (ch HW1.out.1 hb) (i := i) (by have := HN.out; omega)
        have K := ih x hxm _ _ _ (hL.keep (below_alloc _ (.cells #[.bool x.l, .slice a1 n1 k1, .slice a2 n2 k2] 34)))
        have HX : Hid (xs[i]? = some x ∧ (∀ j x, j < i → xs[j]? = some x → may x = true) ∧ Below w1.heap.size w1 wr) := ⟨hx, hd, hb⟩
        clear hx hxm hL hd hb ih
        by_cases hdp : may x = true
        · rw [hdp] at K
          have HD : Hid (may x = true) := hdp
          clear hdp
          go_wp2_with (go_at_call 38; refine K.mono ?_; rintro e w2 ⟨rfl, hb1⟩; have HB : Hid (Below w1.heap.size w1 w2) := ch3 HX.out.2.2 hb1; clear hb1)
          go_roundg (n - (i + 1))
          case measure => omega
          case rel =>
            refine ⟨i + 1, hin, rfl, by go_num, HB.out, fun j y hj hy => ?_⟩
            by_cases e : j = i
            · subst e
              have := hy.symm.trans HX.out.1
              cases this
              exact HD.out
            · exact HX.out.2.1 j y (by omega) hy
        · have hdf : may x = false := by simpa using hdp
          rw [hdf] at K
          have HD : Hid (may (.mk true b xs) = false) := by
            have : ¬ mayL xs = true := fun q => hdp ((mayL_iff xs).1 q x (List.mem_of_getElem? HX.out.1))
            have e : mayL xs = false := by simpa using this
            show may (.mk true b xs) = false
            rw [may_mk, e]
            simp
          clear hdp hdf
          go_wp2_with (go_at_call 38; refine K.mono ?_; rintro e w2 ⟨rfl, hb1⟩; have HB : Hid (Below w1.heap.size w1 w2) := ch3 HX.out.2.2 hb1; clear hb1)
          go_ret
          exact ⟨by rw [HD.out]; rfl, ch HW1.out.1 HB.out⟩
      · have i1 : ¬ (i : Int) < (n : Int) := by omega
        have hE : mayL xs = true := by
          rw [mayL_iff]
          intro x hx
          obtain ⟨j, hj, rfl⟩ := List.getElem_of_mem hx
          exact hd j _ (by have := HN.out; omega) (List.getElem?_eq_getElem hj)
        have HE : Hid (may (.mk true b xs) = decide (nb = 0)) := by
          show may (.mk true b xs) = decide (nb = 0)
          rw [may_mk, hE, HNB.out]
          cases b <;> simp
        have HB : Hid (Below w.heap.size w wr) := ch HW1.out.1 hb
        have x1 := HBX.out wr hb
        clear hb hd ih hE
        by_cases h0 : nb = 0
        · subst h0
          go_wp2_with fail
          go_ret
          exact ⟨by rw [HE.out]; rfl, HB.out⟩
        · have i2 : ¬ (nb : Int) = 0 := by omega
          have i2b : ((nb : Int) == 0) = false := by simpa using i2
          go_wp2_with fail
          go_ret
          exact ⟨by rw [HE.out, decide_eq_false h0]; rfl, HB.out⟩

set_option maxRecDepth 100000 in
set_option maxHeartbeats 1600000 in
theorem marked_any : ∀ (x : It) (w : World) (vb vi : Value), Lies (Sx [90]) w x vb vi →
    Calls Try.prog 24 #[iv x.l vb vi] w fun e w' => e = .returned (.bool true) ∧ Below w.heap.size w w' := by
  refine It.ind (fun l b xs ih => ?_)
  intro w vb vi h
  obtain ⟨a', c', a, c, blk, off, rfl, rfl, hS, hI⟩ := h.opened
  show Calls Try.prog 24 #[iv l _ _] w _
  obtain ⟨lo, a2, c2, e, ho, hok, hbl⟩ := hS
  injection e with e1 _ e3
  subst e1
  subst e3
  have le : (b ++ [90]).length = b.length + 1 := by simp
  rw [le] at ho
  obtain ⟨g, cap, ev, -, -⟩ := ho.form (by omega)
  injection ev with e1 _ e3
  subst e1
  subst e3
  have hcap : b.length + 1 ≤ c' := by
    rcases ho.2 with ⟨e, _⟩ | ⟨g', cap', cur', e, _, _, h1, _⟩
    · cases e
    · injection e with _ _ e
      omega
  have c90 := ho.cells (g := g) rfl b.length (.int .u8 90) (by
    rw [bv_app, List.getElem?_append_right (by rw [bv_len]; omega), bv_len, Nat.sub_self]
    rfl)
  rw [add_flat] at c90
  have hgl : g < w.heap.size := World.block_lt_of_cell? _ _ c90
  obtain ⟨n, en⟩ : ∃ n, n = xs.length := ⟨_, rfl⟩
  have HN : Hid (n = xs.length) := en
  obtain ⟨nb, enb⟩ : ∃ n, n = b.length := ⟨_, rfl⟩
  have hn := hI.hn
  rw [← en] at hn ⊢
  rw [← enb] at c90 hcap hbl ⊢
  have HI : Hid (Its (Sx [90]) w xs a blk off) := hI
  have c91 := ((below_alloc w (.cells #[.bool l, .slice (some ⟨g, 0, none⟩) nb c', .slice a n c] 25)).cell (p := ⟨g, nb, none⟩) hgl).trans c90
  have j1 := slice_upto (some ⟨g, 0, none⟩) nb c' (nb + 1) (by omega)
  rw [show (((nb + 1 : Nat) : Int)) = (nb : Int) + 1 by omega] at j1
  clear hI en enb h ho hok le c90 hgl
  go_enter Try.func24, Try.ntmps24
  go_wp2_with fail
  go_loopg [23] n (fun gg k wr => ∃ (i : Nat), i ≤ n ∧ gg = n - i ∧ k = .int .i64 i ∧ Below w.heap.size w wr)
  case atStart => exact ⟨0, Nat.zero_le _, rfl, rfl, below_alloc _ _⟩
  case round =>
    clear c91
    obtain ⟨i, hi, rfl, rfl, hb⟩ := hrel
    by_cases hin : i < n
    · have i1 : (i : Int) < (n : Int) := by omega
      obtain ⟨rfl, x, a1, n1, k1, a2, n2, k2, hx, hxm, d0, d1, d2, hL⟩ := HI.out.nth hb (i := i) (by have := HN.out; omega)
      have K := ih x hxm _ _ _ (hL.keep (below_alloc _ (.cells #[.bool x.l, .slice a1 n1 k1, .slice a2 n2 k2] 25)))
      have HX : Hid (Below w.heap.size w wr) := hb
      clear hx hxm hL hb ih
      go_wp2_with (go_at_call 24; refine K.mono ?_; rintro e w1 ⟨rfl, hb1⟩; have HB : Hid (Below w.heap.size w w1) := ch3 HX.out hb1; clear hb1)
      go_roundg (n - (i + 1))
      case measure => omega
      case rel => exact ⟨i + 1, hin, rfl, by go_num, HB.out⟩
    · have i1 : ¬ (i : Int) < (n : Int) := by omega
      have HB : Hid (Below w.heap.size w wr) := hb
      clear hb ih
      go_wp2_with fail
      go_ret
      exact ⟨rfl, HB.out⟩
end Go.Proofs.Ytlpmcdnhnhgmpaa
