import Derived.Test.YtpiinkfcaoaffaaGuzy
import Derived.Test.YtpiinkfcaoaffaaLiezy
/-
  readHead.
-/
namespace Go.Proofs.Ytpiinkfcaoaffaa
open Go.RowKit
set_option maxRecDepth 100000 in
set_option maxHeartbeats 1600000 in
theorem readHead_any (w : World) (a : Option Addr) (b off e c p base m : Nat) (s : List Nat) (hv : Vp w a b off e c s) (hp : p < e) (hg : gd s p = base + m) (hm : m < 64) :
    Calls Try.prog 48 #[.slice a e c, .int .i64 p, .int .u8 base] w fun r w' => w' = w ∧ match rdHead s p e m with
      | .ok x z => r = .returned (.tuple #[.int .i64 x, .int .i64 z])
      | .bad q => r = .panicked [flt p q] := by
  obtain ⟨rfl, c0, hx⟩ := hv.cell hp
  rw [hg] at c0
  have KG := fun r => giveUp_any w p r
  have he : e ≤ 1048576 := by have := hv.len; have := hv.small; omega
  have e1 : ((base + m : Nat) : Int) = (base : Int) + m := by omega
  rw [e1] at c0
  have eb : (base : Int) + m - base = m := by omega
  clear e1
  have hb256 : base + m < 256 := by omega
  unfold rdHead
  by_cases h1 : m < 56
  · rw [if_pos h1]
    have i1 : (m : Int) < 56 := by omega
    by_cases h2 : e - (p + 1) < m
    · rw [if_pos h2]
      have i2 : (e : Int) - ((p : Int) + 1) < m := by omega
      clear hv hg hx
      go_enter Try.func48, Try.ntmps48
      go_wp2_with (go_at_call 36; refine (KG 50).mono ?_; rintro e w' ⟨rfl, rfl⟩)
      exact ⟨rfl, rfl, rfl⟩
    · rw [if_neg h2]
      have i2 : ¬ (e : Int) - ((p : Int) + 1) < m := by omega
      clear hv hg hx
      go_enter Try.func48, Try.ntmps48
      go_wp2_with fail
      go_ret2
      exact ⟨rfl, rfl⟩
  · rw [if_neg h1]
    have i1 : ¬ (m : Int) < 56 := by omega
    by_cases h2 : e - (p + 1) < m - 55
    · rw [if_pos h2]
      have i2 : (e : Int) - ((p : Int) + 1) < (m : Int) - 55 := by omega
      clear hv hg hx
      go_enter Try.func48, Try.ntmps48
      go_wp2_with (go_at_call 36; refine (KG 50).mono ?_; rintro e w' ⟨rfl, rfl⟩)
      exact ⟨rfl, rfl, rfl⟩
    · rw [if_neg h2]
      have i2 : ¬ (e : Int) - ((p : Int) + 1) < (m : Int) - 55 := by omega
      obtain ⟨k, rfl⟩ : ∃ k, m = k + 55 := ⟨m - 55, by omega⟩
      rw [Nat.add_sub_cancel] at *
      have sb := slice_both (some ⟨b, off, none⟩) e c (p + 1) (p + 1 + k) (by omega) (by have := hv.cap; omega)
      have hc := hv.cut (l := p + 1) (z := p + 1 + k) (by omega) (by omega)
      have hcl : (cut s (p + 1) (p + 1 + k)).length = k := by rw [cut_len (by have := hv.len; omega)]; omega
      have KL := readLength_any w _ _ _ (c - (p + 1)) p _ hc (by omega) (by omega)
      have hg1 : gd (cut s (p + 1) (p + 1 + k)) 0 = gd s (p + 1) := by rw [cut_gd (by omega), Nat.add_zero]
      rw [hcl] at KL
      unfold rdLen at KL
      rw [hg1] at KL
      rw [show p + 1 + k - (p + 1) = k by omega] at sb
      generalize behind (some ⟨b, off, none⟩) c (p + 1) = bh at sb KL
      generalize num (cut s (p + 1) (p + 1 + k)) = n at *
      generalize gd s (p + 1) = x at *
      rw [show (((p + 1 : Nat)) : Int) = (p : Int) + 1 by omega, show (((p + 1 + k : Nat)) : Int) = (p : Int) + 1 + k by omega] at sb
      clear hv hg hx hc hcl hg1
      have eb2 : (base : Int) + ((k : Int) + 55) - base = (k : Int) + 55 := by omega
      have ek : ((k + 55 : Nat) : Int) = (k : Int) + 55 := by omega
      have ek2 : (k : Int) + 55 - 55 = (k : Int) := by omega
      rw [ek] at c0 i1 i2
      clear ek eb
      by_cases h3 : x = 0
      · rw [if_pos h3] at KL ⊢
        go_enter Try.func48, Try.ntmps48
        go_wp2_with (go_at_call 55; refine KL.mono ?_; rintro e w' ⟨rfl, rfl⟩)
        exact ⟨rfl, rfl, rfl⟩
      · rw [if_neg h3] at KL ⊢
        by_cases h4 : 1048576 < n
        · rw [if_pos h4] at KL ⊢
          go_enter Try.func48, Try.ntmps48
          go_wp2_with (go_at_call 55; refine KL.mono ?_; rintro e w' ⟨rfl, rfl⟩)
          exact ⟨rfl, rfl, rfl⟩
        · rw [if_neg h4] at KL ⊢
          by_cases h5 : n < 56
          · rw [if_pos h5] at KL ⊢
            go_enter Try.func48, Try.ntmps48
            go_wp2_with (go_at_call 55; refine KL.mono ?_; rintro e w' ⟨rfl, rfl⟩)
            exact ⟨rfl, rfl, rfl⟩
          · rw [if_neg h5] at KL ⊢
            by_cases h6 : e - (p + 1 + k) < n
            · rw [if_pos h6]
              have i6 : (e : Int) - ((p : Int) + 1 + k) < n := by omega
              go_enter Try.func48, Try.ntmps48
              go_wp2_with (first | (go_at_call 55; refine KL.mono ?_; rintro e w' ⟨rfl, rfl⟩) | (go_at_call 36; refine (KG 50).mono ?_; rintro e w' ⟨rfl, rfl⟩))
              exact ⟨rfl, rfl, rfl⟩
            · rw [if_neg h6]
              have i6 : ¬ (e : Int) - ((p : Int) + 1 + k) < n := by omega
              go_enter Try.func48, Try.ntmps48
              go_wp2_with (go_at_call 55; refine KL.mono ?_; rintro e w' ⟨rfl, rfl⟩)
              go_ret2
              exact ⟨rfl, rfl⟩
end Go.Proofs.Ytpiinkfcaoaffaa
/-
  mayBe.
-/
namespace Go.Proofs.Ytpiinkfcaoaffaa
open Go.RowKit
theorem ch3 {w wr w1 : World} {o : Obj} (h : Below w.heap.size w wr) (k : Below (wr.alloc o).heap.size (wr.alloc o) w1) : Below w.heap.size w w1 := ch (ch h (below_alloc wr o)) k
set_option maxRecDepth 100000 in
set_option maxHeartbeats 1600000 in
theorem mayBe_any : ∀ (x : It) (w : World) (vb vi : Value), Lies Vb w x vb vi →
    Calls Try.prog 28 #[iv x.l vb vi] w fun e w' => e = .returned (.bool (may x)) ∧ Below w.heap.size w w' := by
  refine It.ind (fun l b xs ih => ?_)
  intro w vb vi h
  obtain ⟨a', c', a, c, blk, off, rfl, rfl, -, hI⟩ := h.opened
  show Calls Try.prog 28 #[iv l _ _] w _
  obtain ⟨n, en⟩ : ∃ n, n = xs.length := ⟨_, rfl⟩
  have HN : Hid (n = xs.length) := en
  obtain ⟨nb, enb⟩ : ∃ n, n = b.length := ⟨_, rfl⟩
  have HNB : Hid (nb = b.length) := enb
  have hn := hI.hn
  rw [← en] at hn ⊢
  rw [← enb]
  have HI : Hid (Its Vb w xs a blk off) := hI
  clear hI en enb h
  cases l with
  | false =>
    have e0 : may (.mk false b xs) = decide (n = 0) := by
      rw [may_mk, HN.out]; cases xs <;> simp
    rw [e0]
    by_cases h0 : n = 0
    · subst h0
      go_enter Try.func28, Try.ntmps28
      go_wp2_with fail
      go_ret
      exact ⟨rfl, below_alloc _ _⟩
    · have i0 : ¬ (n : Int) = 0 := by omega
      have i0b : ((n : Int) == 0) = false := by simpa using i0
      rw [decide_eq_false h0]
      go_enter Try.func28, Try.ntmps28
      go_wp2_with fail
      go_ret
      exact ⟨rfl, below_alloc _ _⟩
  | true =>
    by_cases h0 : nb = 0
    · subst h0
      have e0 : may (.mk true b xs) = mayL xs := by
        rw [may_mk, List.eq_nil_of_length_eq_zero HNB.out.symm]; simp
      rw [e0]
      clear e0
      go_enter Try.func28, Try.ntmps28
      go_wp2_with fail
      go_loopg [19] n (fun gg k wr => ∃ (i : Nat), i ≤ n ∧ gg = n - i ∧ k = .int .i64 i ∧ Below w.heap.size w wr ∧ ∀ j x, j < i → xs[j]? = some x → may x = true)
      case atStart => exact ⟨0, Nat.zero_le _, rfl, rfl, below_alloc _ _, fun j x hj => by omega⟩
      case round =>
        obtain ⟨i, hi, rfl, rfl, hb, hd⟩ := hrel
        by_cases hin : i < n
        · have i1 : (i : Int) < (n : Int) := by omega
          obtain ⟨rfl, x, a1, n1, k1, a2, n2, k2, hx, hxm, d0, d1, d2, hL⟩ := HI.out.nth hb (i := i) (by have := HN.out; omega)
          have K := ih x hxm _ _ _ (hL.keep (below_alloc _ (.cells #[.bool x.l, .slice a1 n1 k1, .slice a2 n2 k2] 51)))
          have HX : Hid (xs[i]? = some x ∧ (∀ j x, j < i → xs[j]? = some x → may x = true) ∧ Below w.heap.size w wr) := ⟨hx, hd, hb⟩
          clear hx hxm hL hd hb ih
          by_cases hdp : may x = true
          · rw [hdp] at K
            have HD : Hid (may x = true) := hdp
            clear hdp
            go_wp2_with (go_at_call 28; refine K.mono ?_; rintro e w1 ⟨rfl, hb1⟩; have HB : Hid (Below w.heap.size w w1) := ch3 HX.out.2.2 hb1; clear hb1)
            go_roundg (n - (i + 1))
            case measure => omega
            case rel =>
              refine ⟨i + 1, hin, rfl, by go_num, HB.out, fun j y hj hy => ?_⟩
              by_cases e : j = i
              · subst e
                have := hy.symm.trans HX.out.1
                cases this
                exact HD.out
              · exact HX.out.2.1 j y (by omega) hy
          · have hdf : may x = false := by simpa using hdp
            rw [hdf] at K
            have HD : Hid (mayL xs = false) := by
              have : ¬ mayL xs = true := fun q => hdp ((mayL_iff xs).1 q x (List.mem_of_getElem? HX.out.1))
              show mayL xs = false
              simpa using this
            clear hdp hdf
            go_wp2_with (go_at_call 28; refine K.mono ?_; rintro e w1 ⟨rfl, hb1⟩; have HB : Hid (Below w.heap.size w w1) := ch3 HX.out.2.2 hb1; clear hb1)
            go_ret
            exact ⟨by rw [HD.out]; rfl, HB.out⟩
        · have i1 : ¬ (i : Int) < (n : Int) := by omega
          have HE : Hid (mayL xs = true) := by
            show mayL xs = true
            rw [mayL_iff]
            intro x hx
            obtain ⟨j, hj, rfl⟩ := List.getElem_of_mem hx
            exact hd j _ (by have := HN.out; omega) (List.getElem?_eq_getElem hj)
          have HB : Hid (Below w.heap.size w wr) := hb
          clear hb hd ih
          go_wp2_with fail
          go_ret
          exact ⟨by rw [HE.out]; rfl, HB.out⟩
    · have i0 : (0 : Int) < nb := by omega
      have e0 : may (.mk true b xs) = false := by
        rw [may_mk]
        cases b with
        | nil => have := HNB.out; simp at this; omega
        | cons y t => simp
      rw [e0]
      clear e0
      go_enter Try.func28, Try.ntmps28
      go_wp2_with fail
      go_ret
      exact ⟨rfl, below_alloc _ _⟩
end Go.Proofs.Ytpiinkfcaoaffaa
