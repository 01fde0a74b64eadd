import Derived.Test.YtledfigfokoiiaaMbq
/-
  formSize.
-/
namespace Go.Proofs.Ytledfigfokoiiaa
open Go.RowKit
/-- how many bytes stand behind the head -/
def bodyLen (x : It) : Nat := if x.l then (forms x.xs).length else x.b.length
def fsz (x : It) : Nat := if bodyLen x ≤ 1048576 then (form x).length else 1048577
theorem hdr_len (base n : Nat) : (hdr base n).length = (hdr 0 n).length := by unfold hdr; split <;> simp
theorem form_body (x : It) : bodyLen x ≤ (form x).length := by
  cases x with
  | mk l b xs =>
    rw [form_mk]
    unfold bodyLen
    cases l
    · simp only [It.l, It.b, Bool.false_eq_true, if_false]
      split <;> simp
    · simp [It.l, It.xs]
theorem fsz_big (x : It) : 1048576 < fsz x ↔ 1048576 < (form x).length := by
  have := form_body x
  unfold fsz
  split <;> omega
theorem hdr0_len {n : Nat} (h : n ≤ 1048576) : (hdr 0 n).length ≤ 4 := by
  have := digs_len_le (n := n) (k := 3) (by omega)
  unfold hdr
  split <;> simp
  omega
theorem forms_take_succ {xs : List It} {i : Nat} {x : It} (h : xs[i]? = some x) : forms (xs.take (i + 1)) = forms (xs.take i) ++ form x := by
  obtain ⟨hi, rfl⟩ := List.getElem?_eq_some_iff.1 h
  rw [List.take_succ_eq_append_getElem hi, forms_app, forms_cons, forms_nil, List.append_nil]
theorem forms_take_le (xs : List It) (i : Nat) : (forms (xs.take i)).length ≤ (forms xs).length := by
  conv => rhs; rw [← List.take_append_drop i xs, forms_app, List.length_append]
  omega
set_option maxRecDepth 100000 in
set_option maxHeartbeats 1600000 in
theorem formSize_any : ∀ (x : It) (w : World) (vb vi : Value), Lies Vb w x vb vi → may x = true →
    Calls Try.prog 29 #[iv x.l vb vi] w fun e w' => e = .returned (.int .i64 (fsz x)) ∧ Below w.heap.size w w' := by
  refine It.ind (fun l b xs ih => ?_)
  intro w vb vi h hm
  obtain ⟨a', c', a, c, blk, off, rfl, rfl, hB, hI⟩ := h.opened
  obtain ⟨a'', b'', off'', c'', e, hv, -, -, hbl⟩ := hB
  injection e with e1 _ e3
  subst e1
  subst e3
  show Calls Try.prog 29 #[iv l _ _] w _
  have K0 := fun o => alone_any (w.alloc o) _ _ _ c' b (hv.below (below_alloc w o))
  obtain ⟨n, en⟩ : ∃ n, n = xs.length := ⟨_, rfl⟩
  have HN : Hid (n = xs.length) := en
  obtain ⟨nb, enb⟩ : ∃ n, n = b.length := ⟨_, rfl⟩
  have HNB : Hid (nb = b.length) := enb
  have hn := hI.hn
  rw [← enb] at K0 hbl ⊢
  rw [← en] at hn ⊢
  have HI : Hid (Its Vb w xs a blk off) := hI
  have HM : Hid (may (.mk l b xs) = true) := hm
  clear hI en enb h hv hm
  by_cases ha : alone b = true
  · have e0 : fsz (.mk l b xs) = 1 := by
      have hl : l = false := by
        cases l
        · rfl
        · have := (form_ok HM.out).1 rfl
          simp only [It.b] at this
          subst this
          simp [alone] at ha
      subst hl
      have : b.length = 1 := by simp [alone] at ha; exact ha.1
      unfold fsz bodyLen
      rw [form_mk]
      simp [It.l, It.b, this, ha]
    rw [e0]
    rw [ha] at K0
    clear e0
    go_enter Try.func29, Try.ntmps29
    go_wp2_with (go_at_call 33; refine (K0 _).mono ?_; rintro e w1 ⟨rfl, rfl⟩)
    go_ret
    exact ⟨rfl, below_alloc _ _⟩
  · have hf : alone b = false := by simpa using ha
    rw [hf] at K0
    have HF : Hid (alone b = false) := hf
    clear ha hf
    have HBL : Hid (fsz (.mk l b xs) = if nb + (forms xs).length ≤ 1048576 then (hdr 0 (nb + (forms xs).length)).length + (nb + (forms xs).length) else 1048577) := by
      show _ = _
      have hm := HM.out
      have hk := form_ok hm
      simp only [It.l, It.b, It.xs] at hk
      cases l with
      | false =>
        have hx := hk.2 rfl
        have e1 : bodyLen (.mk false b xs) = nb := by simp [bodyLen, It.l, It.b, HNB.out]
        have e2 : (form (.mk false b xs)).length = (hdr 0 nb).length + nb := by
          rw [form_mk]
          simp [HF.out, hdr_len 128, ← HNB.out]
        unfold fsz
        rw [e1, e2, hx, forms_nil]
        simp
      | true =>
        have hx := hk.1 rfl
        have e1 : bodyLen (.mk true b xs) = (forms xs).length := by simp [bodyLen, It.l, It.xs]
        have e2 : (form (.mk true b xs)).length = (hdr 0 (forms xs).length).length + (forms xs).length := by
          rw [form_mk]
          simp [hdr_len 192]
        have e3 : nb = 0 := by rw [HNB.out, hx]; rfl
        unfold fsz
        rw [e1, e2, e3]
        simp
    have HMX : Hid (∀ x ∈ xs, may x = true) := fun x hx => by
      have hm := HM.out
      rw [may_mk] at hm
      cases l with
      | false => simp at hm; subst hm; cases hx
      | true => simp at hm; exact (mayL_iff xs).1 hm.2 x hx
    go_enter Try.func29, Try.ntmps29
    go_wp2_with (go_at_call 33; refine (K0 _).mono ?_; rintro e w1 ⟨rfl, rfl⟩)
    go_loopg [3, 15] n (fun gg s k wr => ∃ (i m : Nat), i ≤ n ∧ gg = n - i ∧ s = .int .i64 m ∧ k = .int .i64 i ∧ Below w.heap.size w wr ∧ m = nb + (forms (xs.take i)).length ∧ (0 < i → m ≤ 1048576))
    case atStart => exact ⟨0, nb, Nat.zero_le _, rfl, rfl, rfl, below_alloc _ _, by simp [forms_nil], fun h => by omega⟩
    case round =>
      obtain ⟨i, m, hi, rfl, rfl, rfl, hb, hm, hle⟩ := hrel
      have HMM : Hid (m = nb + (forms (xs.take i)).length) := hm
      by_cases hin : i < n
      · have i1 : (i : Int) < (n : Int) := by omega
        obtain ⟨rfl, x, a1, n1, k1, a2, n2, k2, hx, hxm, d0, d1, d2, hL⟩ := HI.out.nth hb (i := i) (by have := HN.out; omega)
        have K := ih x hxm _ _ _ (hL.keep (below_alloc _ (.cells #[.bool x.l, .slice a1 n1 k1, .slice a2 n2 k2] 46))) (HMX.out x hxm)
        have hfs : fsz x ≤ 1048577 + 4 := by
          unfold fsz
          split
          · rename_i q
            have := form_pos x
            cases x with
            | mk l' b' xs' =>
              rw [form_mk]
              unfold bodyLen at q
              simp only [It.l, It.b, It.xs] at q
              cases l'
              · simp only [Bool.false_eq_true, if_false] at q ⊢
                have := hdr0_len q
                split
                · omega
                · rw [List.length_append, hdr_len]; omega
              · simp only [if_true] at q ⊢
                have := hdr0_len q
                rw [List.length_append, hdr_len]; omega
          · omega
        have hm47 : m ≤ 140737488351232 + 1048577 := by
          rcases Nat.eq_zero_or_pos i with e | e
          · subst e
            rw [List.take_zero, forms_nil] at hm
            simp at hm
            omega
          · have := hle e; omega
        have HX : Hid (xs[i]? = some x ∧ Below w.heap.size w wr ∧ (forms (xs.take (i + 1))).length = (forms (xs.take i)).length + (form x).length ∧ (1048576 < fsz x ↔ 1048576 < (form x).length) ∧ (fsz x ≤ 1048576 → fsz x = (form x).length)) := ⟨hx, hb, by rw [forms_take_succ hx, List.length_append], fsz_big x, fun q => by
          unfold fsz at q ⊢
          split at q
          · rename_i q2; rw [if_pos q2]
          · omega⟩
        generalize fsz x = F at K hfs HX
        have HTL : Hid ((forms (xs.take (i + 1))).length ≤ (forms xs).length) := forms_take_le xs (i + 1)
        clear hx hxm hL hb ih hm hle
        by_cases hbig : 1048576 < m + F
        · have ib : (1048576 : Int) < (m : Int) + (F : Int) := by omega
          go_wp2_with (go_at_call 29; refine K.mono ?_; rintro e w1 ⟨rfl, hb1⟩; have HB : Hid (Below w.heap.size w w1) := ch3 HX.out.2.1 hb1; clear hb1)
          go_ret
          refine ⟨?_, HB.out⟩
          have hx := HX.out
          have h1 := HMM.out
          have h2 := HTL.out
          rw [HBL.out, if_neg (by
            have h3 := hx.2.2.1
            by_cases q : F ≤ 1048576
            · have := hx.2.2.2.2 q; omega
            · have := hx.2.2.2.1.1 (by omega); omega)]
          rfl
        · have ib : ¬ (1048576 : Int) < (m : Int) + (F : Int) := by omega
          go_wp2_with (go_at_call 29; refine K.mono ?_; rintro e w1 ⟨rfl, hb1⟩; have HB : Hid (Below w.heap.size w w1) := ch3 HX.out.2.1 hb1; clear hb1)
          go_roundg (n - (i + 1))
          case measure => omega
          case rel =>
            have hx := HX.out
            refine ⟨i + 1, m + F, hin, rfl, by go_num, by go_num, HB.out, ?_, fun _ => by omega⟩
            have h1 := HMM.out
            have h3 := hx.2.2.1
            have := hx.2.2.2.2 (by omega)
            omega
      · have i1 : ¬ (i : Int) < (n : Int) := by omega
        have et : xs.take i = xs := List.take_of_length_le (by have := HN.out; omega)
        rw [et] at hm
        have HB : Hid (Below w.heap.size w wr) := hb
        have HM2 : Hid (m = nb + (forms xs).length) := hm
        by_cases hbig : 1048576 < m
        · have ib : (1048576 : Int) < (m : Int) := by omega
          clear hb ih hm
          go_wp2_with fail
          go_ret
          refine ⟨?_, HB.out⟩
          rw [HBL.out, if_neg (by have := HM2.out; omega)]
          rfl
        · have ib : ¬ (1048576 : Int) < (m : Int) := by omega
          have K1 := headSize_any wr m (by omega)
          have hh := hdr0_len (n := m) (by omega)
          have HH : Hid ((if nb + (forms xs).length ≤ 1048576 then (hdr 0 (nb + (forms xs).length)).length + (nb + (forms xs).length) else 1048577) = (hdr 0 m).length + m) := by
            show _ = _
            rw [← hm, if_pos (by omega)]
          generalize (hdr 0 m).length = hl at K1 hh HH
          clear hb ih hm
          go_wp2_with (go_at_call 35; refine K1.mono ?_; rintro e w1 ⟨rfl, rfl⟩)
          go_ret
          refine ⟨?_, HB.out⟩
          rw [HBL.out, HH.out]
          rfl
end Go.Proofs.Ytledfigfokoiiaa
