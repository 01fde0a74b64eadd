import Derived.Test.YtadcbhjmbgenbaaGue
import Derived.Test.YtadcbhjmbgenbaaLiee
/-
  readHead.
-/
namespace Go.Proofs.Ytadcbhjmbgenbaa
open Go.RowKit

set_option maxRecDepth 100000 in
set_option maxHeartbeats 1600000 in
theorem readHead_any (w : World) (a : Option Addr) (b off e c p base m : Nat) (s : List Nat) (hv : Vp w a b off e c s) (hp : p < e) (hg : gd s p = base + m) (hm : m < 64) :
    Calls Try.prog 74 #[.slice a e c, .int .i64 p, .int .u8 base] w fun r w' => w' = w ∧ match rdHead s p e m with
      | .ok x z => r = .returned (.tuple #[.int .i64 x, .int .i64 z])
      | .bad q => r = .panicked [flt p q] := by
  obtain ⟨rfl, c0, hx⟩ := hv.cell hp
  rw [hg] at c0
  have KG := fun r => giveUp_any w p r
  have he : e ≤ 1048576 := by have := hv.len; have := hv.small; omega
  have e1 : ((base + m : Nat) : Int) = (base : Int) + m := by omega
  rw [e1] at c0
  have eb : (base : Int) + m - base = m := by omega
  clear e1
  have hb256 : base + m < 256 := by omega
  unfold rdHead
  by_cases h1 : m < 56
  · rw [if_pos h1]
    have i1 : (m : Int) < 56 := by omega
    by_cases h2 : e - (p + 1) < m
    · rw [if_pos h2]
      have i2 : (e : Int) - ((p : Int) + 1) < m := by omega
      clear hv hg hx
      go_enter Try.func74, Try.ntmps74
      go_wp2_with (go_at_call 53; refine (KG 50).mono ?_; rintro e w' ⟨rfl, rfl⟩)
      exact ⟨rfl, rfl, rfl⟩
    · rw [if_neg h2]
      have i2 : ¬ (e : Int) - ((p : Int) + 1) < m := by omega
      clear hv hg hx
      go_enter Try.func74, Try.ntmps74
      go_wp2_with fail
      go_ret2
      exact ⟨rfl, rfl⟩
  · rw [if_neg h1]
    have i1 : ¬ (m : Int) < 56 := by omega
    by_cases h2 : e - (p + 1) < m - 55
    · rw [if_pos h2]
      have i2 : (e : Int) - ((p : Int) + 1) < (m : Int) - 55 := by omega
      clear hv hg hx
      go_enter Try.func74, Try.ntmps74
      go_wp2_with (go_at_call 53; refine (KG 50).mono ?_; rintro e w' ⟨rfl, rfl⟩)
      exact ⟨rfl, rfl, rfl⟩
    · rw [if_neg h2]
      have i2 : ¬ (e : Int) - ((p : Int) + 1) < (m : Int) - 55 := by omega
      obtain ⟨k, rfl⟩ : ∃ k, m = k + 55 := ⟨m - 55, by omega⟩
      rw [Nat.add_sub_cancel] at *
      have sb := slice_both (some ⟨b, off, none⟩) e c (p + 1) (p + 1 + k) (by omega) (by have := hv.cap; omega)
      have hc := hv.cut (l := p + 1) (z := p + 1 + k) (by omega) (by omega)
      have hcl : (cut s (p + 1) (p + 1 + k)).length = k := by rw [cut_len (by have := hv.len; omega)]; omega
      have KL := readLength_any w _ _ _ (c - (p + 1)) p _ hc (by omega) (by omega)
      have hg1 : gd (cut s (p + 1) (p + 1 + k)) 0 = gd s (p + 1) := by rw [cut_gd (by omega), Nat.add_zero]
      rw [hcl] at KL
      unfold rdLen at KL
      rw [hg1] at KL
      rw [show p + 1 + k - (p + 1) = k by omega] at sb
      generalize behind (some ⟨b, off, none⟩) c (p + 1) = bh at sb KL
      generalize num (cut s (p + 1) (p + 1 + k)) = n at *
      generalize gd s (p + 1) = x at *
      rw [show (((p + 1 : Nat)) : Int) = (p : Int) + 1 by omega, show (((p + 1 + k : Nat)) : Int) = (p : Int) + 1 + k by omega] at sb
      clear hv hg hx hc hcl hg1
      have eb2 : (base : Int) + ((k : Int) + 55) - base = (k : Int) + 55 := by omega
      have ek : ((k + 55 : Nat) : Int) = (k : Int) + 55 := by omega
      have ek2 : (k : Int) + 55 - 55 = (k : Int) := by omega
      rw [ek] at c0 i1 i2
      clear ek eb
      by_cases h3 : x = 0
      · rw [if_pos h3] at KL ⊢
        go_enter Try.func74, Try.ntmps74
        go_wp2_with (go_at_call 82; refine KL.mono ?_; rintro e w' ⟨rfl, rfl⟩)
        exact ⟨rfl, rfl, rfl⟩
      · rw [if_neg h3] at KL ⊢
        by_cases h4 : 1048576 < n
        · rw [if_pos h4] at KL ⊢
          go_enter Try.func74, Try.ntmps74
          go_wp2_with (go_at_call 82; refine KL.mono ?_; rintro e w' ⟨rfl, rfl⟩)
          exact ⟨rfl, rfl, rfl⟩
        · rw [if_neg h4] at KL ⊢
          by_cases h5 : n < 56
          · rw [if_pos h5] at KL ⊢
            go_enter Try.func74, Try.ntmps74
            go_wp2_with (go_at_call 82; refine KL.mono ?_; rintro e w' ⟨rfl, rfl⟩)
            exact ⟨rfl, rfl, rfl⟩
          · rw [if_neg h5] at KL ⊢
            by_cases h6 : e - (p + 1 + k) < n
            · rw [if_pos h6]
              have i6 : (e : Int) - ((p : Int) + 1 + k) < n := by omega
              go_enter Try.func74, Try.ntmps74
              go_wp2_with (first | (go_at_call 82; refine KL.mono ?_; rintro e w' ⟨rfl, rfl⟩) | (go_at_call 53; refine (KG 50).mono ?_; rintro e w' ⟨rfl, rfl⟩))
              exact ⟨rfl, rfl, rfl⟩
            · rw [if_neg h6]
              have i6 : ¬ (e : Int) - ((p : Int) + 1 + k) < n := by omega
              go_enter Try.func74, Try.ntmps74
              go_wp2_with (go_at_call 82; refine KL.mono ?_; rintro e w' ⟨rfl, rfl⟩)
              go_ret2
              exact ⟨rfl, rfl⟩
end Go.Proofs.Ytadcbhjmbgenbaa

/-
  mayBe.
-/
namespace Go.Proofs.Ytadcbhjmbgenbaa
open Go.RowKit

theorem ch3 {w wr w1 : World} {o : Obj} (h : Below w.heap.size w wr) (k : Below (wr.alloc o).heap.size (wr.alloc o) w1) : Below w.heap.size w w1 := ch (ch h (below_alloc wr o)) k

set_option maxRecDepth 100000 in
set_option maxHeartbeats 1600000 in
theorem mayBe_any : ∀ (x : It) (w : World) (vb vi : Value), Lies Vb w x vb vi →
    Calls Try.prog 45 #[iv x.l vb vi] w fun e w' => e = .returned (.bool (may x)) ∧ Below w.heap.size w w' := by
  refine It.ind (fun l b xs ih => ?_)
  intro w vb vi h
  obtain ⟨a', c', a, c, blk, off, rfl, rfl, -, hI⟩ := h.opened
  show Calls Try.prog 45 #[iv l _ _] w _
  obtain ⟨n, en⟩ : ∃ n, n = xs.length := ⟨_, rfl⟩
  have HN : Hid (n = xs.length) := en
  obtain ⟨nb, enb⟩ : ∃ n, n = b.length := ⟨_, rfl⟩
  have HNB : Hid (nb = b.length) := enb
  have hn := hI.hn
  rw [← en] at hn ⊢
  rw [← enb]
  have HI : Hid (Its Vb w xs a blk off) := hI
  clear hI en enb h
  cases l with
  | false =>
    have e0 : may (.mk false b xs) = decide (n = 0) := by
      rw [may_mk, HN.out]; cases xs <;> simp
    rw [e0]
    by_cases h0 : n = 0
    · subst h0
      go_enter Try.func45, Try.ntmps45
      go_wp2_with fail
      go_ret
      exact ⟨rfl, below_alloc _ _⟩
    · have i0 : ¬ (n : Int) = 0 := by omega
      have i0b : ((n : Int) == 0) = false := by simpa using i0
      rw [decide_eq_false h0]
      go_enter Try.func45, Try.ntmps45
      go_wp2_with fail
      go_ret
      exact ⟨rfl, below_alloc _ _⟩
  | true =>
    by_cases h0 : nb = 0
    · subst h0
      have e0 : may (.mk true b xs) = mayL xs := by
        rw [may_mk, List.eq_nil_of_length_eq_zero HNB.out.symm]; simp
      rw [e0]
      clear e0
      go_enter Try.func45, Try.ntmps45
      go_wp2_with fail
      go_loopg [19] n (fun gg k wr => ∃ (i : Nat), i ≤ n ∧ gg = n - i ∧ k = .int .i64 i ∧ Below w.heap.size w wr ∧ ∀ j x, j < i → xs[j]? = some x → may x = true)
      case atStart => exact ⟨0, Nat.zero_le _, rfl, rfl, below_alloc _ _, fun j x hj => by omega⟩
      case round =>
        obtain ⟨i, hi, rfl, rfl, hb, hd⟩ := hrel
        by_cases hin : i < n
        · have i1 : (i : Int) < (n : Int) := by omega
          obtain ⟨rfl, x, a1, n1, k1, a2, n2, k2, hx, hxm, d0, d1, d2, hL⟩ := HI.out.nth hb (i := i) (by have := HN.out; omega)
          have K := ih x hxm _ _ _ (hL.keep (below_alloc _ (.cells #[.bool x.l, .slice a1 n1 k1, .slice a2 n2 k2] 62)))
          have HX : Hid (xs[i]? = some x ∧ (∀ j x, j < i → xs[j]? = some x → may x = true) ∧ Below w.heap.size w wr) := ⟨hx, hd, hb⟩
          clear hx hxm hL hd hb ih
          by_cases hdp : may x = true
          · rw [hdp] at K
            have HD : Hid (may x = true) := hdp
            clear hdp
            go_wp2_with (go_at_call 45; refine K.mono ?_; rintro e w1 ⟨rfl, hb1⟩; have HB : Hid (Below w.heap.size w w1) := ch3 HX.out.2.2 hb1; clear hb1)
            go_roundg (n - (i + 1))
            case measure => omega
            case rel =>
              refine ⟨i + 1, hin, rfl, by go_num, HB.out, fun j y hj hy => ?_⟩
              by_cases e : j = i
              · subst e
                have := hy.symm.trans HX.out.1
                cases this
                exact HD.out
              · exact HX.out.2.1 j y (by omega) hy
          · have hdf : may x = false := by simpa using hdp
            rw [hdf] at K
            have HD : Hid (mayL xs = false) := by
              have : ¬ mayL xs = true := fun q => hdp ((mayL_iff xs).1 q x (List.mem_of_getElem? HX.out.1))
              show mayL xs = false
              simpa using this
            clear hdp hdf
            go_wp2_with (go_at_call 45; refine K.mono ?_; rintro e w1 ⟨rfl, hb1⟩; have HB : Hid (Below w.heap.size w w1) := ch3 HX.out.2.2 hb1; clear hb1)
            go_ret
            exact ⟨by rw [HD.out]; rfl, HB.out⟩
        · have i1 : ¬ (i : Int) < (n : Int) := by omega
          have HE : Hid (mayL xs = true) := by
            show mayL xs = true
            rw [mayL_iff]
            intro x hx
            obtain ⟨j, hj, rfl⟩ := List.getElem_of_mem hx
            exact hd j _ (by have := HN.out; omega) (List.getElem?_eq_getElem hj)
          have HB : Hid (Below w.heap.size w wr) := hb
          clear hb hd ih
          go_wp2_with fail
          go_ret
          exact ⟨by rw [HE.out]; rfl, HB.out⟩
    · have i0 : (0 : Int) < nb := by omega
      have e0 : may (.mk true b xs) = false := by
        rw [may_mk]
        cases b with
        | nil => have := HNB.out; simp at this; omega
        | cons y t => simp
      rw [e0]
      clear e0
      go_enter Try.func45, Try.ntmps45
      go_wp2_with fail
      go_ret
      exact ⟨rfl, below_alloc _ _⟩
end Go.Proofs.Ytadcbhjmbgenbaa

/-
  formSize.
-/
namespace Go.Proofs.Ytadcbhjmbgenbaa
open Go.RowKit

/-- how many bytes stand behind the head -/
def bodyLen (x : It) : Nat := if x.l then (forms x.xs).length else x.b.length
def fsz (x : It) : Nat := if bodyLen x ≤ 1048576 then (form x).length else 1048577
theorem hdr_len (base n : Nat) : (hdr base n).length = (hdr 0 n).length := by unfold hdr; split <;> simp
theorem form_body (x : It) : bodyLen x ≤ (form x).length := by
  cases x with
  | mk l b xs =>
    rw [form_mk]
    unfold bodyLen
    cases l
    · simp only [It.l, It.b, Bool.false_eq_true, if_false]
      split <;> simp
    · simp [It.l, It.xs]
theorem fsz_big (x : It) : 1048576 < fsz x ↔ 1048576 < (form x).length := by
  have := form_body x
  unfold fsz
  split <;> omega
theorem hdr0_len {n : Nat} (h : n ≤ 1048576) : (hdr 0 n).length ≤ 4 := by
  have := digs_len_le (n := n) (k := 3) (by omega)
  unfold hdr
  split <;> simp
  omega
theorem forms_take_succ {xs : List It} {i : Nat} {x : It} (h : xs[i]? = some x) : forms (xs.take (i + 1)) = forms (xs.take i) ++ form x := by
  obtain ⟨hi, rfl⟩ := List.getElem?_eq_some_iff.1 h
  rw [List.take_succ_eq_append_getElem hi, forms_app, forms_cons, forms_nil, List.append_nil]
theorem forms_take_le (xs : List It) (i : Nat) : (forms (xs.take i)).length ≤ (forms xs).length := by
  conv => rhs; rw [← List.take_append_drop i xs, forms_app, List.length_append]
  omega

set_option maxRecDepth 100000 in
set_option maxHeartbeats 1600000 in
theorem formSize_any : ∀ (x : It) (w : World) (vb vi : Value), Lies Vb w x vb vi → may x = true →
    Calls Try.prog 46 #[iv x.l vb vi] w fun e w' => e = .returned (.int .i64 (fsz x)) ∧ Below w.heap.size w w' := by
  refine It.ind (fun l b xs ih => ?_)
  intro w vb vi h hm
  obtain ⟨a', c', a, c, blk, off, rfl, rfl, hB, hI⟩ := h.opened
  obtain ⟨a'', b'', off'', c'', e, hv, -, -, hbl⟩ := hB
  injection e with e1 _ e3
  subst e1
  subst e3
  show Calls Try.prog 46 #[iv l _ _] w _
  have K0 := fun o => alone_any (w.alloc o) _ _ _ c' b (hv.below (below_alloc w o))
  obtain ⟨n, en⟩ : ∃ n, n = xs.length := ⟨_, rfl⟩
  have HN : Hid (n = xs.length) := en
  obtain ⟨nb, enb⟩ : ∃ n, n = b.length := ⟨_, rfl⟩
  have HNB : Hid (nb = b.length) := enb
  have hn := hI.hn
  rw [← enb] at K0 hbl ⊢
  rw [← en] at hn ⊢
  have HI : Hid (Its Vb w xs a blk off) := hI
  have HM : Hid (may (.mk l b xs) = true) := hm
  clear hI en enb h hv hm
  by_cases ha : alone b = true
  · have e0 : fsz (.mk l b xs) = 1 := by
      have hl : l = false := by
        cases l
        · rfl
        · have := (form_ok HM.out).1 rfl
          simp only [It.b] at this
          subst this
          simp [alone] at ha
      subst hl
      have : b.length = 1 := by simp [alone] at ha; exact ha.1
      unfold fsz bodyLen
      rw [form_mk]
      simp [It.l, It.b, this, ha]
    rw [e0]
    rw [ha] at K0
    clear e0
    go_enter Try.func46, Try.ntmps46
    go_wp2_with (go_at_call 68; refine (K0 _).mono ?_; rintro e w1 ⟨rfl, rfl⟩)
    go_ret
    exact ⟨rfl, below_alloc _ _⟩
  · have hf : alone b = false := by simpa using ha
    rw [hf] at K0
    have HF : Hid (alone b = false) := hf
    clear ha hf
    have HBL : Hid (fsz (.mk l b xs) = if nb + (forms xs).length ≤ 1048576 then (hdr 0 (nb + (forms xs).length)).length + (nb + (forms xs).length) else 1048577) := by
      show _ = _
      have hm := HM.out
      have hk := form_ok hm
      simp only [It.l, It.b, It.xs] at hk
      cases l with
      | false =>
        have hx := hk.2 rfl
        have e1 : bodyLen (.mk false b xs) = nb := by simp [bodyLen, It.l, It.b, HNB.out]
        have e2 : (form (.mk false b xs)).length = (hdr 0 nb).length + nb := by
          rw [form_mk]
          simp [HF.out, hdr_len 128, ← HNB.out]
        unfold fsz
        rw [e1, e2, hx, forms_nil]
        simp
      | true =>
        have hx := hk.1 rfl
        have e1 : bodyLen (.mk true b xs) = (forms xs).length := by simp [bodyLen, It.l, It.xs]
        have e2 : (form (.mk true b xs)).length = (hdr 0 (forms xs).length).length + (forms xs).length := by
          rw [form_mk]
          simp [hdr_len 192]
        have e3 : nb = 0 := by rw [HNB.out, hx]; rfl
        unfold fsz
        rw [e1, e2, e3]
        simp
    have HMX : Hid (∀ x ∈ xs, may x = true) := fun x hx => by
      have hm := HM.out
      rw [may_mk] at hm
      cases l with
      | false => simp at hm; subst hm; cases hx
      | true => simp at hm; exact (mayL_iff xs).1 hm.2 x hx
    go_enter Try.func46, Try.ntmps46
    go_wp2_with (go_at_call 68; refine (K0 _).mono ?_; rintro e w1 ⟨rfl, rfl⟩)
    go_loopg [3, 15] n (fun gg s k wr => ∃ (i m : Nat), i ≤ n ∧ gg = n - i ∧ s = .int .i64 m ∧ k = .int .i64 i ∧ Below w.heap.size w wr ∧ m = nb + (forms (xs.take i)).length ∧ (0 < i → m ≤ 1048576))
    case atStart => exact ⟨0, nb, Nat.zero_le _, rfl, rfl, rfl, below_alloc _ _, by simp [forms_nil], fun h => by omega⟩
    case round =>
      obtain ⟨i, m, hi, rfl, rfl, rfl, hb, hm, hle⟩ := hrel
      have HMM : Hid (m = nb + (forms (xs.take i)).length) := hm
      by_cases hin : i < n
      · have i1 : (i : Int) < (n : Int) := by omega
        obtain ⟨rfl, x, a1, n1, k1, a2, n2, k2, hx, hxm, d0, d1, d2, hL⟩ := HI.out.nth hb (i := i) (by have := HN.out; omega)
        have K := ih x hxm _ _ _ (hL.keep (below_alloc _ (.cells #[.bool x.l, .slice a1 n1 k1, .slice a2 n2 k2] 62))) (HMX.out x hxm)
        have hfs : fsz x ≤ 1048577 + 4 := by
          unfold fsz
          split
          · rename_i q
            have := form_pos x
            cases x with
            | mk l' b' xs' =>
              rw [form_mk]
              unfold bodyLen at q
              simp only [It.l, It.b, It.xs] at q
              cases l'
              · simp only [Bool.false_eq_true, if_false] at q ⊢
                have := hdr0_len q
                split
                · omega
                · rw [List.length_append, hdr_len]; omega
              · simp only [if_true] at q ⊢
                have := hdr0_len q
                rw [List.length_append, hdr_len]; omega
          · omega
        have hm47 : m ≤ 140737488351232 + 1048577 := by
          rcases Nat.eq_zero_or_pos i with e | e
          · subst e
            rw [List.take_zero, forms_nil] at hm
            simp at hm
            omega
          · have := hle e; omega
        have HX : Hid (xs[i]? = some x ∧ Below w.heap.size w wr ∧ (forms (xs.take (i + 1))).length = (forms (xs.take i)).length + (form x).length ∧ (1048576 < fsz x ↔ 1048576 < (form x).length) ∧ (fsz x ≤ 1048576 → fsz x = (form x).length)) := ⟨hx, hb, by rw [forms_take_succ hx, List.length_append], fsz_big x, fun q => by
          unfold fsz at q ⊢
          split at q
          · rename_i q2; rw [if_pos q2]
          · omega⟩
        generalize fsz x = F at K hfs HX
        have HTL : Hid ((forms (xs.take (i + 1))).length ≤ (forms xs).length) := forms_take_le xs (i + 1)
        clear hx hxm hL hb ih hm hle
        by_cases hbig : 1048576 < m + F
        · have ib : (1048576 : Int) < (m : Int) + (F : Int) := by omega
          go_wp2_with (go_at_call 46; refine K.mono ?_; rintro e w1 ⟨rfl, hb1⟩; have HB : Hid (Below w.heap.size w w1) := ch3 HX.out.2.1 hb1; clear hb1)
          go_ret
          refine ⟨?_, HB.out⟩
          have hx := HX.out
          have h1 := HMM.out
          have h2 := HTL.out
          rw [HBL.out, if_neg (by
            have h3 := hx.2.2.1
            by_cases q : F ≤ 1048576
            · have := hx.2.2.2.2 q; omega
            · have := hx.2.2.2.1.1 (by omega); omega)]
          rfl
        · have ib : ¬ (1048576 : Int) < (m : Int) + (F : Int) := by omega
          go_wp2_with (go_at_call 46; refine K.mono ?_; rintro e w1 ⟨rfl, hb1⟩; have HB : Hid (Below w.heap.size w w1) := ch3 HX.out.2.1 hb1; clear hb1)
          go_roundg (n - (i + 1))
          case measure => omega
          case rel =>
            have hx := HX.out
            refine ⟨i + 1, m + F, hin, rfl, by go_num, by go_num, HB.out, ?_, fun _ => by omega⟩
            have h1 := HMM.out
            have h3 := hx.2.2.1
            have := hx.2.2.2.2 (by omega)
            omega
      · have i1 : ¬ (i : Int) < (n : Int) := by omega
        have et : xs.take i = xs := List.take_of_length_le (by have := HN.out; omega)
        rw [et] at hm
        have HB : Hid (Below w.heap.size w wr) := hb
        have HM2 : Hid (m = nb + (forms xs).length) := hm
        by_cases hbig : 1048576 < m
        · have ib : (1048576 : Int) < (m : Int) := by omega
          clear hb ih hm
          go_wp2_with fail
          go_ret
          refine ⟨?_, HB.out⟩
          rw [HBL.out, if_neg (by have := HM2.out; omega)]
          rfl
        · have ib : ¬ (1048576 : Int) < (m : Int) := by omega
          have K1 := headSize_any wr m (by omega)
          have hh := hdr0_len (n := m) (by omega)
          have HH : Hid ((if nb + (forms xs).length ≤ 1048576 then (hdr 0 (nb + (forms xs).length)).length + (nb + (forms xs).length) else 1048577) = (hdr 0 m).length + m) := by
            show _ = _
            rw [← hm, if_pos (by omega)]
          generalize (hdr 0 m).length = hl at K1 hh HH
          clear hb ih hm
          go_wp2_with (go_at_call 69; refine K1.mono ?_; rintro e w1 ⟨rfl, rfl⟩)
          go_ret
          refine ⟨?_, HB.out⟩
          rw [HBL.out, HH.out]
          rfl
end Go.Proofs.Ytadcbhjmbgenbaa
