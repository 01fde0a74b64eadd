/-
  cairnref05: form.
-/
import Derived.Test.YtlpmcdnhnhgmpaaRsh
import Derived.Test.YtlpmcdnhnhgmpaaEnc
namespace Go.Proofs.Ytlpmcdnhnhgmpaa
open Go.RowKit

theorem hdr_lt2 {base n : Nat} (hn : n ≤ 1099511627776) (hb : base ≤ 192) : ∀ x ∈ hdr base n, x < 256 := by
  unfold hdr
  have := digs_len_le (n := n) (k := 6) (by omega)
  split
  · simp; omega
  · intro x hx
    rcases List.mem_cons.1 hx with rfl | hx
    · omega
    · exact digs_lt n x hx
theorem form_lt2 {w : World} : ∀ (x : It) (vb vi : Value), Lies Vb w x vb vi → (form x).length ≤ 1099511627776 → ∀ y ∈ form x, y < 256 := by
  refine It.ind (fun l b xs ih => ?_)
  intro vb vi h hl y hy
  obtain ⟨a', c', a, c, blk, off, rfl, rfl, hB, hI⟩ := h.opened
  obtain ⟨a'', b'', off'', c'', e, hv, -, -, hbl⟩ := hB
  have hb := (vw_ok hv).2
  rw [form_mk] at hy hl
  cases l with
  | false =>
    simp only [Bool.false_eq_true, if_false] at hy hl
    split at hy
    · exact hb y hy
    · rename_i q
      rw [if_neg q, List.length_append] at hl
      rcases List.mem_append.1 hy with hy | hy
      · exact hdr_lt2 (by omega) (by omega) y hy
      · exact hb y hy
  | true =>
    simp only [if_true] at hy hl
    rw [List.length_append] at hl
    rcases List.mem_append.1 hy with hy | hy
    · exact hdr_lt2 (by omega) (by omega) y hy
    · have : ∀ ys : List It, (∀ x ∈ ys, x ∈ xs) → (forms ys).length ≤ 1099511627776 → ∀ y ∈ forms ys, y < 256 := by
        intro ys
        induction ys with
        | nil => intro _ _ y hy; rw [forms_nil] at hy; cases hy
        | cons z zs ihz =>
          intro hin hll y hy
          rw [forms_cons] at hy hll
          rw [List.length_append] at hll
          rcases List.mem_append.1 hy with hy | hy
          · obtain ⟨i, hi, hiz⟩ := List.getElem_of_mem (hin z (by simp))
            obtain ⟨a1, n1, k1, a2, n2, k2, -, -, -, hL⟩ := hI.get i z (by rw [List.getElem?_eq_getElem hi, hiz])
            exact ih z (hin z (by simp)) _ _ hL (by omega) y hy
          · exact ihz (fun x hx => hin x (by simp [hx])) (by omega) y hy
      exact this xs (fun x hx => hx) (by omega) y hy
theorem forms_take {xs : List It} {i : Nat} {x : It} (hx : xs[i]? = some x) : forms (xs.take (i + 1)) = forms (xs.take i) ++ form x := by
  obtain ⟨hi', rfl⟩ := List.getElem?_eq_some_iff.1 hx
  rw [List.take_succ_eq_append_getElem hi', forms_app, forms_cons, forms_nil, List.append_nil]

set_option maxRecDepth 100000 in
set_option maxHeartbeats 1600000 in
/-- a string's form -/
theorem rform_str (w : World) (b : List Nat) (vb vi : Value) (xs : List It) (h : Lies Vb w (.mk false b xs) vb vi) (hlen : b.length ≤ 1099511627776) :
    Calls Try.prog 39 #[iv false vb vi] w fun e w' => ∃ v, e = .returned v ∧ w'.ownsRow w.heap.size 5 1 v (form (.mk false b xs)).length (bv (form (.mk false b xs))) ∧ Below w.heap.size w w' := by
  obtain ⟨a', c', a, c, blk, off, rfl, rfl, hB, hI⟩ := h.opened
  obtain ⟨a2, b2, off2, c2, e2, hv, -, hnil, -⟩ := hB
  injection e2 with z1 _ z3
  subst z1
  subst z3
  generalize xs.length = n
  obtain ⟨w1, ew1⟩ : ∃ w1, w1 = w.alloc (.cells #[.bool false, .slice a' b.length c', .slice a n c] 34) := ⟨_, rfl⟩
  have HBX : Hid (∀ wr, Below w1.heap.size w1 wr → wr.cell? ⟨w.heap.size, 0, none⟩ = some (.bool false) ∧ wr.cell? ⟨w.heap.size, 1, none⟩ = some (.slice a' b.length c')) := fun wr h => by
    rw [ew1] at h
    exact ⟨(box_keep h).1, (box_keep h).2.1⟩
  have b1 : Below w.heap.size w w1 := by rw [ew1]; exact below_alloc _ _
  have HV : Hid (∀ wr, Below w1.heap.size w1 wr → Vw wr a' b2 off2 b) := fun wr k => hv.below (ch b1 k)
  have HW : Hid (w1 = w.alloc (.cells #[.bool false, .slice a' b.length c', .slice a n c] 34) ∧ Below w.heap.size w w1 ∧ (a' = none → c' = 0)) := ⟨ew1, b1, hnil⟩
  have hok := (vw_ok hv).2
  have h1' := hv.at_
  obtain ⟨nb, enb⟩ : ∃ nb, nb = b.length := ⟨_, rfl⟩
  have HN : Hid (nb = b.length) := enb
  have HC0 : Hid (0 < nb → w1.cell? ⟨b2, off2, none⟩ = some (.int .u8 (gd b 0 : Nat))) := fun h0 => (HV.out w1 (Below.refl _ _)).cell 0 (by have := HN.out; omega)
  rw [← enb] at HBX HW h1' hlen ⊢
  clear h hv hnil hI b1 ew1 enb
  obtain ⟨x0, x1⟩ := HBX.out w1 (Below.refl _ _)
  by_cases ha : alone b = true
  · have hf : form (.mk false b xs) = b := by rw [form_mk]; simp [ha]
    have hb1 : b.length = 1 ∧ gd b 0 < 128 := by simpa [alone] using ha
    have e1 : nb = 1 := by rw [HN.out]; exact hb1.1
    subst e1
    obtain rfl := h1' (by omega)
    have c0 := HC0.out (by omega)
    have eb : b = [gd b 0] := by
      match b, hb1.1 with
      | [y], _ => rfl
    rw [hf, hb1.1, eb]
    generalize gd b 0 = y at *
    have i1 : (y : Int) < 128 := by omega
    have own0 := World.ownsRow_lit (base := w.heap.size) (e := 5) (size := 1) w1 #[.int .u8 (y : Int)] 1 HW.out.2.1.size (by decide) rfl
    rw [show w1.heap.size = w.heap.size + 1 by rw [HW.out.1]; simp] at own0
    have HO : Hid ((w1.alloc (.cells #[.int .u8 (y : Int)] 5)).ownsRow w.heap.size 5 1 (.slice (some ⟨w.heap.size + 1, 0, none⟩) 1 1) 1 [.int .u8 (y : Int)]) := own0
    rw [HW.out.1] at c0
    clear own0 hb1 hf ha eb hok h1' HC0 HV HN x0 x1
    go_enter Try.func39, Try.ntmps39
    go_wp2_with fail
    rw [← HW.out.1]
    go_ret
    refine ⟨_, rfl, ?_, ch HW.out.2.1 (below_alloc _ _)⟩
    have e2 : bv [y] = [.int .u8 (y : Int)] := by simp [bv]
    rw [e2]
    exact HO.out
  · have hf : form (.mk false b xs) = hdr 128 b.length ++ b := by rw [form_mk]; simp [ha]
    have K1 := fun w2 : World => rhead_any w2 128 nb hlen (by omega)
    have hl6 : (hdr 128 nb).length ≤ 16 := by
      have := digs_len_le (n := nb) (k := 6) (by omega)
      unfold hdr
      split <;> simp <;> omega
    have HF : Hid (form (.mk false b xs) = hdr 128 nb ++ b ∧ (hdr 128 nb).length ≤ 16) := ⟨by rw [hf, ← HN.out], hl6⟩
    obtain ⟨hl, ehl⟩ : ∃ hl, hl = (hdr 128 nb).length := ⟨_, rfl⟩
    have hlb : hl ≤ 16 := by omega
    rw [← ehl] at K1
    have HL : Hid (hl = (hdr 128 nb).length) := ehl
    have HVN : Hid (∀ wr, Below w1.heap.size w1 wr → View wr a' b2 off2 nb (fun i => ((gd b i : Nat) : Int))) := fun wr k => by rw [HN.out]; exact HV.out wr k
    by_cases hn1 : nb = 1
    · subst hn1
      obtain rfl := h1' (by omega)
      have c0 := HC0.out (by omega)
      have i1 : ¬ ((gd b 0 : Nat) : Int) < 128 := fun q => ha (by simp [alone, ← HN.out]; omega)
      generalize gd b 0 = y at c0 i1
      rw [HW.out.1] at c0
      clear ehl hl6 hf ha hok h1' HC0 x0 x1
      go_enter Try.func39, Try.ntmps39
      go_wp2_with fail
      rw [← HW.out.1]
      go_region_held3 (fun w' => w'.cell? ⟨w.heap.size, 1, none⟩ = some (.slice (some ⟨b2, off2, none⟩) 1 c'))
        (first | (exact (HBX.out _ (by assumption)).2) | (exact (HBX.out _ (Below.drew (Below.refl _ _))).2))
        (first
          | (go_at_call 50; refine (K1 _).mono ?_; rintro e w2 ⟨v2, rfl, ho2, hb2, hnn2⟩; have B2 : Below w1.heap.size w1 w2 := ch (Below.drew (Below.refl _ _)) hb2; have V2 := HVN.out _ B2)
          | (refine step_append_bytes (by rfl) (.tmp 28) (.tmp 30) (by rfl) w1.heap.size v2 hl _ (by rfl) ho2 (some ⟨b2, off2, none⟩) b2 off2 1 c' _ (by rfl) V2 HW.out.2.2 (by omega) B2.size ?_; intro v3 w3 own3 gr3 nn3; have B3 : Below w1.heap.size w1 w3 := B2.trans (grown_below gr3 ho2 (Nat.le_refl _) B2.size)))
      have own4 : w3.ownsRow w.heap.size 5 1 v3 (form (.mk false b xs)).length (bv (form (.mk false b xs))) := by
        have := own_rebase own3 (C := w.heap.size) (fun g hg => by have := (own3.lt g hg).1; have := HW.out.2.1.size; omega)
        rw [HF.out.1, List.length_append, ← HL.out, ← HN.out, bv_app, ← vals_bv b, ← HN.out]
        exact this
      have HZ : Hid (w3.ownsRow w.heap.size 5 1 v3 (form (.mk false b xs)).length (bv (form (.mk false b xs))) ∧ Below w.heap.size w w3) := ⟨own4, ch HW.out.2.1 B3⟩
      clear own3 own4 gr3 nn3 B3 V2 B2 ho2 hb2 hnn2
      go_wp2_with fail
      go_ret
      exact ⟨_, rfl, HZ.out⟩
    · have i1 : ¬ ((nb : Int) = 1) := by omega
      have i1b : ((nb : Int) == 1) = false := by simpa using i1
      clear ehl hl6 hf ha hok h1' HC0
      go_enter Try.func39, Try.ntmps39
      go_wp2_with fail
      rw [← HW.out.1]
      go_region_held3 (fun w' => w'.cell? ⟨w.heap.size, 1, none⟩ = some (.slice a' nb c'))
        (first | (exact (HBX.out _ (by assumption)).2) | (exact (HBX.out _ (Below.drew (Below.refl _ _))).2))
        (first
          | (go_at_call 50; refine (K1 _).mono ?_; rintro e w2 ⟨v2, rfl, ho2, hb2, hnn2⟩; have B2 : Below w1.heap.size w1 w2 := ch (Below.drew (Below.refl _ _)) hb2; have V2 := HVN.out _ B2)
          | (refine step_append_bytes (by rfl) (.tmp 28) (.tmp 30) (by rfl) w1.heap.size v2 hl _ (by rfl) ho2 a' b2 off2 nb c' _ (by rfl) V2 HW.out.2.2 (by omega) B2.size ?_; intro v3 w3 own3 gr3 nn3; have B3 : Below w1.heap.size w1 w3 := B2.trans (grown_below gr3 ho2 (Nat.le_refl _) B2.size)))
      have own4 : w3.ownsRow w.heap.size 5 1 v3 (form (.mk false b xs)).length (bv (form (.mk false b xs))) := by
        have := own_rebase own3 (C := w.heap.size) (fun g hg => by have := (own3.lt g hg).1; have := HW.out.2.1.size; omega)
        rw [HF.out.1, List.length_append, ← HL.out, ← HN.out, bv_app, ← vals_bv b, ← HN.out]
        exact this
      have HZ : Hid (w3.ownsRow w.heap.size 5 1 v3 (form (.mk false b xs)).length (bv (form (.mk false b xs))) ∧ Below w.heap.size w w3) := ⟨own4, ch HW.out.2.1 B3⟩
      clear own3 own4 gr3 nn3 B3 V2 B2 ho2 hb2 hnn2
      go_wp2_with fail
      go_ret
      exact ⟨_, rfl, HZ.out⟩

set_option maxRecDepth 100000 in
set_option maxHeartbeats 3200000 in
theorem rform_any : ∀ (x : It) (w : World) (vb vi : Value), Lies Vb w x vb vi → (form x).length ≤ 1099511627776 →
    Calls Try.prog 39 #[iv x.l vb vi] w fun e w' => ∃ v, e = .returned v ∧ w'.ownsRow w.heap.size 5 1 v (form x).length (bv (form x)) ∧ Below w.heap.size w w' := by
  refine It.ind (fun l b xs ih => ?_)
  intro w vb vi h hlen
  cases l with
  | false =>
    refine rform_str w b vb vi xs h ?_
    rw [form_mk] at hlen
    simp only [Bool.false_eq_true, if_false] at hlen
    split at hlen
    · exact hlen
    · rw [List.length_append] at hlen; omega
  | true =>
    obtain ⟨a', c', a, c, blk, off, rfl, rfl, -, hI⟩ := h.opened
    show Calls Try.prog 39 #[iv true _ _] w _
    have ef : form (.mk true b xs) = hdr 192 (forms xs).length ++ forms xs := by rw [form_mk]; simp
    rw [ef, List.length_append] at hlen
    rw [ef]
    obtain ⟨F, eF⟩ : ∃ F, F = (forms xs).length := ⟨_, rfl⟩
    rw [← eF] at hlen ⊢
    have hF : F ≤ 1099511627776 := by omega
    have HF : Hid (F = (forms xs).length) := eF
    have HH : Hid (∀ x ∈ xs, (form x).length ≤ 1099511627776 ∧ ∀ y ∈ form x, y < 256) := fun x hx => by
      have h1 : (form x).length ≤ (forms xs).length := by
        obtain ⟨s, t, rfl⟩ := List.append_of_mem hx
        rw [forms_app, forms_cons, List.length_append, List.length_append]
        omega
      obtain ⟨i, hi, hix⟩ := List.getElem_of_mem hx
      obtain ⟨a1, n1, k1, a2, n2, k2, -, -, -, hL⟩ := hI.get i x (by rw [List.getElem?_eq_getElem hi, hix])
      exact ⟨by omega, form_lt2 x _ _ hL (by omega)⟩
    have HFO : Hid (∀ y ∈ forms xs, y < 256) := fun y hy => by
      have : y ∈ form (.mk true b xs) := by rw [ef]; exact List.mem_append_right _ hy
      exact form_lt2 _ _ _ h (by rw [ef, List.length_append, ← eF]; omega) y this
    obtain ⟨n, en⟩ : ∃ n, n = xs.length := ⟨_, rfl⟩
    have HN : Hid (n = xs.length) := en
    have hn := hI.hn
    rw [← en] at hn ⊢
    generalize b.length = nb
    have HI : Hid (Its Vb w xs a blk off) := hI
    clear hI ef en h hlen eF
    go_enter Try.func39, Try.ntmps39
    go_wp2_with fail
    go_loopg [3, 35] n (fun gg u k wr => ∃ (i : Nat), i ≤ n ∧ gg = n - i ∧ k = .int .i64 i ∧ Below w.heap.size w wr ∧ wr.ownsRow w.heap.size 5 1 u (forms (xs.take i)).length (bv (forms (xs.take i))))
    case atStart => exact ⟨0, Nat.zero_le _, rfl, rfl, below_alloc _ _, by rw [List.take_zero, forms_nil]; exact ⟨rfl, Or.inl ⟨rfl, rfl⟩⟩⟩
    case round =>
      obtain ⟨i, hi, rfl, rfl, hb, ho⟩ := hrel
      by_cases hin : i < n
      · have i1 : (i : Int) < (n : Int) := by omega
        obtain ⟨rfl, x, a1, n1, k1, a2, n2, k2, hx, hxm, d0, d1, d2, hL⟩ := HI.out.nth hb (i := i) (by have := HN.out; omega)
        have K := ih x hxm _ _ _ (hL.keep (below_alloc _ (.cells #[.bool x.l, .slice a1 n1 k1, .slice a2 n2 k2] 34))) (HH.out x hxm).1
        have HX : Hid (Below w.heap.size w wr ∧ forms (xs.take (i + 1)) = forms (xs.take i) ++ form x ∧ ∀ y ∈ form x, y < 256) := ⟨hb, forms_take hx, (HH.out x hxm).2⟩
        have hlf : (forms (xs.take i)).length + (form x).length ≤ F := by
          have := forms_take_le xs (i + 1)
          rw [forms_take hx, List.length_append] at this
          have := HF.out
          omega
        obtain ⟨P, eP⟩ : ∃ P, P = forms (xs.take i) := ⟨_, rfl⟩
        obtain ⟨fx, efx⟩ : ∃ fx, fx = form x := ⟨_, rfl⟩
        rw [← eP] at ho HX hlf
        rw [← efx] at hlf K HX
        have HO : Hid (wr.ownsRow w.heap.size 5 1 u3 P.length (bv P)) := ho
        obtain ⟨l1, el1⟩ : ∃ l1, l1 = P.length := ⟨_, rfl⟩
        obtain ⟨l2, el2⟩ : ∃ l2, l2 = fx.length := ⟨_, rfl⟩
        have HLL : Hid (l1 = P.length ∧ l2 = fx.length) := ⟨el1, el2⟩
        rw [← el1, ← el2] at hlf
        rw [← el2] at K
        obtain ⟨av, cv, ev⟩ := own_slice ho
        subst ev
        rw [← el1]
        clear ho hx hxm hL hb ih eP efx el1 el2
        go_wp2_with fail
        refine K.mono ?_
        rintro e w2 ⟨v2, rfl, ho2, hb2⟩
        have B2 : Below wr.heap.size wr w2 := ch (below_alloc _ _) hb2
        have O2 := own_same HO.out (fun g hg => B2.block g (HO.out.lt g hg).2)
        obtain ⟨av2, cv2, ev2⟩ := own_slice ho2
        subst ev2
        obtain ⟨a3, b3, off3, c3, e3, hv3, -, hnil3, -⟩ := vb_of_own ho2 HLL.out.2.symm HX.out.2.2 (by omega)
        injection e3 with z1 z2 z3
        subst z1
        subst z3
        clear z2
        have HZ : Hid (w2.ownsRow w.heap.size 5 1 (.slice av P.length cv) P.length (bv P) ∧ View w2 av2 b3 off3 fx.length (fun i => ((gd fx i : Nat) : Int)) ∧ (av2 = none → cv2 = 0) ∧ Below w.heap.size w w2) := ⟨O2, hv3, hnil3, ch HX.out.1 B2⟩
        rw [← HLL.out.1, ← HLL.out.2] at HZ
        clear O2 hv3 hnil3 ho2 hb2 B2 K
        go_wp2_with (refine wpList_append_bytes (by rfl) (.tmp 39) (.tmp 41) (by rfl) w.heap.size _ l1 _ (by rfl) HZ.out.1 av2 b3 off3 l2 cv2 _ (by rfl) HZ.out.2.1 HZ.out.2.2.1 (by omega) HZ.out.2.2.2.size ?_)
        intro v3 w3 own3 gr3 nn3
        have B3 : Below w.heap.size w w3 := HZ.out.2.2.2.trans (grown_below gr3 HZ.out.1 (Nat.le_refl _) HZ.out.2.2.2.size)
        have own4 : w3.ownsRow w.heap.size 5 1 v3 (forms (xs.take (i + 1))).length (bv (forms (xs.take (i + 1)))) := by
          rw [HX.out.2.1, List.length_append, bv_app, ← vals_bv fx, ← HLL.out.1, ← HLL.out.2]
          exact own3
        have HY : Hid (w3.ownsRow w.heap.size 5 1 v3 (forms (xs.take (i + 1))).length (bv (forms (xs.take (i + 1)))) ∧ Below w.heap.size w w3) := ⟨own4, B3⟩
        clear own3 own4 B3 gr3 nn3
        go_wp2_with fail
        go_roundg (n - (i + 1))
        case measure => omega
        case rel => exact ⟨i + 1, hin, rfl, by go_num, HY.out.2, HY.out.1⟩
      · have i1 : ¬ (i : Int) < (n : Int) := by omega
        have et : xs.take i = xs := List.take_of_length_le (by have := HN.out; omega)
        rw [et] at ho
        have HO : Hid (wr.ownsRow w.heap.size 5 1 u3 (forms xs).length (bv (forms xs)) ∧ Below w.heap.size w wr) := ⟨ho, hb⟩
        obtain ⟨av, cv, ev⟩ := own_slice ho
        subst ev
        rw [← HF.out]
        have K := rhead_any wr 192 F hF (by omega)
        have hl6 : (hdr 192 F).length ≤ 16 := by
          have := digs_len_le (n := F) (k := 6) (by omega)
          unfold hdr
          split <;> simp <;> omega
        obtain ⟨hl, ehl⟩ : ∃ hl, hl = (hdr 192 F).length := ⟨_, rfl⟩
        rw [← ehl] at K hl6
        have HL : Hid (hl = (hdr 192 F).length) := ehl
        clear ho hb ih et ehl
        go_wp2_with fail
        refine K.mono ?_
        rintro e w2 ⟨v2, rfl, ho2, hb2, nn2⟩
        have O2 := own_same HO.out.1 (fun g hg => hb2.block g (HO.out.1.lt g hg).2)
        obtain ⟨a3, b3, off3, c3, e3, hv3, -, hnil3, -⟩ := vb_of_own O2 rfl HFO.out (by have := HF.out; omega)
        injection e3 with z1 z2 z3
        subst z1
        subst z3
        clear z2
        have HZ : Hid (w2.ownsRow wr.heap.size 5 1 v2 hl (bv (hdr 192 F)) ∧ View w2 av b3 off3 F (fun i => ((gd (forms xs) i : Nat) : Int)) ∧ (av = none → cv = 0) ∧ Below wr.heap.size wr w2) := ⟨ho2, by rw [HF.out]; exact hv3, hnil3, hb2⟩
        clear O2 hv3 hnil3 ho2 hb2 K
        go_wp2_with (refine wpList_append_bytes (by rfl) (.tmp 46) (.tmp 47) (by rfl) wr.heap.size _ hl _ (by rfl) HZ.out.1 av b3 off3 F cv _ (by rfl) HZ.out.2.1 HZ.out.2.2.1 (by omega) HZ.out.2.2.2.size ?_)
        intro v3 w3 own3 gr3 nn3
        have B3 : Below wr.heap.size wr w3 := HZ.out.2.2.2.trans (grown_below gr3 HZ.out.1 (Nat.le_refl _) HZ.out.2.2.2.size)
        have own4 : w3.ownsRow w.heap.size 5 1 v3 (hdr 192 F ++ forms xs).length (bv (hdr 192 F ++ forms xs)) := by
          have := own_rebase own3 (C := w.heap.size) (fun g hg => by have := (own3.lt g hg).1; have := HO.out.2.size; omega)
          rw [List.length_append, bv_app, ← vals_bv (forms xs), ← HL.out, ← HF.out]
          exact this
        have HY : Hid (w3.ownsRow w.heap.size 5 1 v3 (hdr 192 F ++ forms xs).length (bv (hdr 192 F ++ forms xs)) ∧ Below w.heap.size w w3) := ⟨own4, ch HO.out.2 B3⟩
        clear own3 own4 B3 gr3 nn3
        go_wp2_with fail
        go_ret
        exact ⟨_, rfl, HY.out⟩
end Go.Proofs.Ytlpmcdnhnhgmpaa
