import Derived.Test.YtledfigfokoiiaaLieq
/-
  mayBe.
-/
namespace Go.Proofs.Ytledfigfokoiiaa
open Go.RowKit
theorem ch3 {w wr w1 : World} {o : Obj} (h : Below w.heap.size w wr) (k : Below (wr.alloc o).heap.size (wr.alloc o) w1) : Below w.heap.size w w1 := ch (ch h (below_alloc wr o)) k
set_option maxRecDepth 100000 in
set_option maxHeartbeats 1600000 in
theorem mayBe_any : ∀ (x : It) (w : World) (vb vi : Value), Lies Vb w x vb vi →
    Calls Try.prog 28 #[iv x.l vb vi] w fun e w' => e = .returned (.bool (may x)) ∧ Below w.heap.size w w' := by
  refine It.ind (fun l b xs ih => ?_)
  intro w vb vi h
  obtain ⟨a', c', a, c, blk, off, rfl, rfl, -, hI⟩ := h.opened
  show Calls Try.prog 28 #[iv l _ _] w _
  obtain ⟨n, en⟩ : ∃ n, n = xs.length := ⟨_, rfl⟩
  have HN : Hid (n = xs.length) := en
  obtain ⟨nb, enb⟩ : ∃ n, n = b.length := ⟨_, rfl⟩
  have HNB : Hid (nb = b.length) := enb
  have hn := hI.hn
  rw [← en] at hn ⊢
  rw [← enb]
  have HI : Hid (Its Vb w xs a blk off) := hI
  clear hI en enb h
  cases l with
  | false =>
    have e0 : may (.mk false b xs) = decide (n = 0) := by
      rw [may_mk, HN.out]; cases xs <;> simp
    rw [e0]
    by_cases h0 : n = 0
    · subst h0
      go_enter Try.func28, Try.ntmps28
      go_wp2_with fail
      go_ret
      exact ⟨rfl, below_alloc _ _⟩
    · have i0 : ¬ (n : Int) = 0 := by omega
      have i0b : ((n : Int) == 0) = false := by simpa using i0
      rw [decide_eq_false h0]
      go_enter Try.func28, Try.ntmps28
      go_wp2_with fail
      go_ret
      exact ⟨rfl, below_alloc _ _⟩
  | true =>
    by_cases h0 : nb = 0
    · subst h0
      have e0 : may (.mk true b xs) = mayL xs := by
        rw [may_mk, List.eq_nil_of_length_eq_zero HNB.out.symm]; simp
      rw [e0]
      clear e0
      go_enter Try.func28, Try.ntmps28
      go_wp2_with fail
      go_loopg [19] n (fun gg k wr => ∃ (i : Nat), i ≤ n ∧ gg = n - i ∧ k = .int .i64 i ∧ Below w.heap.size w wr ∧ ∀ j x, j < i → xs[j]? = some x → may x = true)
      case atStart => exact ⟨0, Nat.zero_le _, rfl, rfl, below_alloc _ _, fun j x hj => by omega⟩
      case round =>
        obtain ⟨i, hi, rfl, rfl, hb, hd⟩ := hrel
        by_cases hin : i < n
        · have i1 : (i : Int) < (n : Int) := by omega
          obtain ⟨rfl, x, a1, n1, k1, a2, n2, k2, hx, hxm, d0, d1, d2, hL⟩ := HI.out.nth hb (i := i) (by have := HN.out; omega)
          have K := ih x hxm _ _ _ (hL.keep (below_alloc _ (.cells #[.bool x.l, .slice a1 n1 k1, .slice a2 n2 k2] 46)))
          have HX : Hid (xs[i]? = some x ∧ (∀ j x, j < i → xs[j]? = some x → may x = true) ∧ Below w.heap.size w wr) := ⟨hx, hd, hb⟩
          clear hx hxm hL hd hb ih
          by_cases hdp : may x = true
          · rw [hdp] at K
            have HD : Hid (may x = true) := hdp
            clear hdp
            go_wp2_with (go_at_call 28; refine K.mono ?_; rintro e w1 ⟨rfl, hb1⟩; have HB : Hid (Below w.heap.size w w1) := ch3 HX.out.2.2 hb1; clear hb1)
            go_roundg (n - (i + 1))
            case measure => omega
            case rel =>
              refine ⟨i + 1, hin, rfl, by go_num, HB.out, fun j y hj hy => ?_⟩
              by_cases e : j = i
              · subst e
                have := hy.symm.trans HX.out.1
                cases this
                exact HD.out
              · exact HX.out.2.1 j y (by omega) hy
          · have hdf : may x = false := by simpa using hdp
            rw [hdf] at K
            have HD : Hid (mayL xs = false) := by
              have : ¬ mayL xs = true := fun q => hdp ((mayL_iff xs).1 q x (List.mem_of_getElem? HX.out.1))
              show mayL xs = false
              simpa using this
            clear hdp hdf
            go_wp2_with (go_at_call 28; refine K.mono ?_; rintro e w1 ⟨rfl, hb1⟩; have HB : Hid (Below w.heap.size w w1) := ch3 HX.out.2.2 hb1; clear hb1)
            go_ret
            exact ⟨by rw [HD.out]; rfl, HB.out⟩
        · have i1 : ¬ (i : Int) < (n : Int) := by omega
          have HE : Hid (mayL xs = true) := by
            show mayL xs = true
            rw [mayL_iff]
            intro x hx
            obtain ⟨j, hj, rfl⟩ := List.getElem_of_mem hx
            exact hd j _ (by have := HN.out; omega) (List.getElem?_eq_getElem hj)
          have HB : Hid (Below w.heap.size w wr) := hb
          clear hb hd ih
          go_wp2_with fail
          go_ret
          exact ⟨by rw [HE.out]; rfl, HB.out⟩
    · have i0 : (0 : Int) < nb := by omega
      have e0 : may (.mk true b xs) = false := by
        rw [may_mk]
        cases b with
        | nil => have := HNB.out; simp at this; omega
        | cons y t => simp
      rw [e0]
      clear e0
      go_enter Try.func28, Try.ntmps28
      go_wp2_with fail
      go_ret
      exact ⟨rfl, below_alloc _ _⟩
end Go.Proofs.Ytledfigfokoiiaa
