import Derived.Test.YtledfigfokoiiaaWiq
/-
  Encode.
-/
namespace Go.Proofs.Ytledfigfokoiiaa
open Go.RowKit
theorem form_lt {w : World} : ∀ (x : It) (vb vi : Value), Lies Vb w x vb vi → may x = true → (form x).length ≤ 1048576 → ∀ y ∈ form x, y < 256 := by
  refine It.ind (fun l b xs ih => ?_)
  intro vb vi h hm hl y hy
  obtain ⟨a', c', a, c, blk, off, rfl, rfl, hB, hI⟩ := h.opened
  obtain ⟨a'', b'', off'', c'', e, hv, -, -, hbl⟩ := hB
  have hb := (vw_ok hv).2
  rw [form_mk] at hy hl
  cases l with
  | false =>
    simp only [Bool.false_eq_true, if_false] at hy hl
    split at hy
    · exact hb y hy
    · rename_i q
      rw [if_neg q, List.length_append] at hl
      rcases List.mem_append.1 hy with hy | hy
      · exact hdr_lt (by omega) (by omega) y hy
      · exact hb y hy
  | true =>
    simp only [if_true] at hy hl
    rw [List.length_append] at hl
    have hmx : ∀ x ∈ xs, may x = true := by
      rw [may_mk] at hm
      simp at hm
      exact (mayL_iff xs).1 hm.2
    rcases List.mem_append.1 hy with hy | hy
    · exact hdr_lt (by omega) (by omega) y hy
    · have : ∀ ys : List It, (∀ x ∈ ys, x ∈ xs) → (forms ys).length ≤ 1048576 → ∀ y ∈ forms ys, y < 256 := by
        intro ys
        induction ys with
        | nil => intro _ _ y hy; rw [forms_nil] at hy; cases hy
        | cons z zs ihz =>
          intro hin hll y hy
          rw [forms_cons] at hy hll
          rw [List.length_append] at hll
          rcases List.mem_append.1 hy with hy | hy
          · obtain ⟨i, hi, hiz⟩ := List.getElem_of_mem (hin z (by simp))
            obtain ⟨a1, n1, k1, a2, n2, k2, -, -, -, hL⟩ := hI.get i z (by rw [List.getElem?_eq_getElem hi, hiz])
            exact ih z (hin z (by simp)) _ _ hL (hmx z (hin z (by simp))) (by omega) y hy
          · exact ihz (fun x hx => hin x (by simp [hx])) (by omega) y hy
      exact this xs (fun x hx => hx) (by omega) y hy
theorem Rm.str {w : World} {F : Nat → Prop} {g : Nat} {t : List Nat} (h : Rm w g t) (hF : F g) (hb : ∀ x ∈ t, x < 256) (hl : t.length ≤ 140737488355328) : Str w F (.slice (some ⟨g, 0, none⟩) t.length t.length) t :=
  ⟨⟨by rw [bv_len]; omega, Or.inr ⟨g, t.length, (bv t).toArray, rfl, Nat.zero_le _, h, Nat.le_refl _, by unfold maxLen; omega, by simp [bv_len], by simp [List.take_of_length_le (show (bv t).length ≤ t.length by rw [bv_len]; omega)]⟩⟩, fun g' hg' => by
    have : g = g' := Option.some.inj hg'
    subst this
    exact hF, ⟨by omega, hb⟩⟩
theorem str_nil (w : World) (F : Nat → Prop) : Str w F (.slice none 0 0) [] := ⟨⟨rfl, Or.inl ⟨rfl, rfl⟩⟩, (fun g hg => by cases hg), ⟨by simp, by simp⟩⟩
set_option maxRecDepth 100000 in
set_option maxHeartbeats 3200000 in
theorem encode_any (x : It) (w : World) (vb vi : Value) (h : Lies Vb w x vb vi) :
    Calls Try.prog 22 #[iv x.l vb vi] w fun e w' => ∃ v, e = .returned (.tuple #[v, .int .i64 (encE x)]) ∧ Str w' (fun i => w.heap.size ≤ i) v (enc x) ∧ Below w.heap.size w w' := by
  obtain ⟨a1, n1, k1, a2, n2, k2, rfl, rfl⟩ := h.form
  obtain ⟨l, el⟩ : ∃ l, l = x.l := ⟨_, rfl⟩
  obtain ⟨w1, ew1⟩ : ∃ w1, w1 = w.alloc (.cells #[.bool l, .slice a1 n1 k1, .slice a2 n2 k2] 46) := ⟨_, rfl⟩
  have HW1 : Hid (w1 = w.alloc (.cells #[.bool l, .slice a1 n1 k1, .slice a2 n2 k2] 46)) := ew1
  have bw1 : Below w.heap.size w w1 := by rw [ew1]; exact below_alloc w _
  have HBX : Hid (∀ wr, Below w1.heap.size w1 wr → wr.cell? ⟨w.heap.size, 0, none⟩ = some (.bool l) ∧ wr.cell? ⟨w.heap.size, 1, none⟩ = some (.slice a1 n1 k1) ∧ wr.cell? ⟨w.heap.size, 2, none⟩ = some (.slice a2 n2 k2)) := fun wr h => by
    rw [ew1] at h
    exact box_keep h
  have HB1 : Hid (Below w.heap.size w w1) := bw1
  have HL : Hid (Lies Vb w1 x (.slice a1 n1 k1) (.slice a2 n2 k2)) := h.keep bw1
  have K1 := deeper_any x w1 _ _ 80 HL.out (by omega)
  have K2 := fun w2 (hb : Below w1.heap.size w1 w2) => mayBe_any x w2 _ _ (HL.out.keep hb)
  rw [← el] at K1 K2 ⊢
  obtain ⟨x0, x1, x2⟩ := HBX.out w1 (Below.refl _ _)
  have HEL : Hid (l = x.l) := el
  clear h el ew1 bw1
  by_cases hd : 80 < dp x
  · have HE : Hid (encE x = 53 ∧ enc x = []) := by
      have : encE x = 53 := by unfold encE; rw [if_pos hd]
      exact ⟨this, by unfold enc; rw [this]; rfl⟩
    rw [decide_eq_true hd] at K1
    clear K2
    go_enter Try.func22, Try.ntmps22
    go_wp2_with fail
    rw [← HW1.out]
    refine K1.mono ?_
    rintro e w2 ⟨rfl, hb2⟩
    have HB : Hid (Below w.heap.size w w2) := ch HB1.out hb2
    clear hb2
    go_wp2_with fail
    go_ret2
    exact ⟨_, by rw [HE.out.1]; rfl, by rw [HE.out.2]; exact str_nil _ _, HB.out⟩
  · rw [decide_eq_false hd] at K1
    have hd' : dp x ≤ 80 := by omega
    by_cases hm : may x = true
    · rw [hm] at K2
      have K3 := fun w2 (hb : Below w1.heap.size w1 w2) => formSize_any x w2 _ _ (HL.out.keep hb) hm
      rw [← HEL.out] at K3
      by_cases hf : 1048576 < (form x).length
      · have HE : Hid (encE x = 54 ∧ enc x = []) := by
          have : encE x = 54 := by unfold encE; rw [if_neg hd, if_neg (by simp [hm]), if_pos hf]
          exact ⟨this, by unfold enc; rw [this]; rfl⟩
        have hF := (fsz_big x).2 hf
        generalize fsz x = F at K3 hF
        have hF' : (1048576 : Int) < (F : Int) := by omega
        go_enter Try.func22, Try.ntmps22
        go_wp2_with fail
        rw [← HW1.out]
        refine K1.mono ?_
        rintro e w2 ⟨rfl, hb2⟩
        obtain ⟨y0, y1, y2⟩ := HBX.out w2 hb2
        have HB2 : Hid (Below w1.heap.size w1 w2) := hb2
        clear hb2 x0 x1 x2 K1 hd hd' hm hf
        go_wp2_with fail
        refine (K2 _ HB2.out).mono ?_
        rintro e w3 ⟨rfl, hb3⟩
        have HB3 : Hid (Below w1.heap.size w1 w3) := ch HB2.out hb3
        obtain ⟨z0, z1, z2⟩ := HBX.out w3 HB3.out
        clear hb3 y0 y1 y2 HB2 K2
        go_wp2_with fail
        refine (K3 _ HB3.out).mono ?_
        rintro e w4 ⟨rfl, hb4⟩
        have HB4 : Hid (Below w.heap.size w w4) := ch HB1.out (ch HB3.out hb4)
        clear hb4 z0 z1 z2 HB3 K3
        go_wp2_with fail
        go_ret2
        exact ⟨_, by rw [HE.out.1]; rfl, by rw [HE.out.2]; exact str_nil _ _, HB4.out⟩
      · have HE : Hid (encE x = 0 ∧ enc x = form x) := by
          have : encE x = 0 := by unfold encE; rw [if_neg hd, if_neg (by simp [hm]), if_neg hf]
          exact ⟨this, by unfold enc; rw [this]; rfl⟩
        have hF : fsz x = (form x).length := by
          unfold fsz
          rw [if_pos (by have := form_body x; omega)]
        rw [hF] at K3
        obtain ⟨F, eF⟩ : ∃ F, F = (form x).length := ⟨_, rfl⟩
        rw [← eF] at K3
        have hF' : ¬ (1048576 : Int) < (F : Int) := by omega
        have HF : Hid (F = (form x).length) := eF
        have HM : Hid (may x = true) := hm
        have hFm : F ≤ 1048576 := by omega
        have hmk := run_make_row' (P := Try.prog) 23 5 (.int .u8 0) 1 Try.underlying23 Try.info5 rfl .i64 .i64 F (by omega) (by omega)
        clear eF hF hd hd' hm hf
        go_enter Try.func22, Try.ntmps22
        go_wp2_with fail
        rw [← HW1.out]
        refine K1.mono ?_
        rintro e w2 ⟨rfl, hb2⟩
        obtain ⟨y0, y1, y2⟩ := HBX.out w2 hb2
        have HB2 : Hid (Below w1.heap.size w1 w2) := hb2
        clear hb2 x0 x1 x2 K1
        go_wp2_with fail
        refine (K2 _ HB2.out).mono ?_
        rintro e w3 ⟨rfl, hb3⟩
        have HB3 : Hid (Below w1.heap.size w1 w3) := ch HB2.out hb3
        obtain ⟨z0, z1, z2⟩ := HBX.out w3 HB3.out
        clear hb3 y0 y1 y2 HB2 K2
        go_wp2_with fail
        refine (K3 _ HB3.out).mono ?_
        rintro e w4 ⟨rfl, hb4⟩
        have HB4 : Hid (Below w1.heap.size w1 w4) := ch HB3.out hb4
        clear hb4 z0 z1 z2 HB3 K3
        obtain ⟨w5, ew5⟩ : ∃ w5, w5 = w4.alloc (.cells (madeCells #[.int .u8 0] F) 5) := ⟨_, rfl⟩
        have b5 : Below w4.heap.size w4 w5 := by rw [ew5]; exact below_alloc _ _
        have r5 : w5.rowIs w4.heap.size 5 F (fun _ => .int .u8 0) := by rw [ew5]; exact World.rowIs_made w4 _ F 5
        have m5 : Rm w5 w4.heap.size (List.replicate F 0) := Rm.of_row r5 (by simp) (fun i hi => by
          unfold gd
          rw [List.getD_eq_getElem?_getD, List.getElem?_replicate, if_pos hi]
          rfl)
        obtain ⟨z0, z1, z2⟩ := HBX.out w5 (ch HB4.out b5)
        rw [ew5] at z0 z1 z2
        have K5 := writeItem_any x w4 w5 _ _ w4.heap.size F 0 F _ (HL.out.keep HB4.out) b5 (Nat.le_refl _) m5 (by simp) (Nat.le_refl _) hFm (by have := HF.out; omega) HM.out
        rw [← HEL.out] at K5
        have HW5 : Hid (w5 = w4.alloc (.cells (madeCells #[.int .u8 0] F) 5) ∧ Below w4.heap.size w4 w5) := ⟨ew5, b5⟩
        clear ew5 b5 r5 m5
        go_wp2_with fail
        rw [← HW5.out.1]
        refine K5.mono ?_
        rintro e w6 ⟨rfl, hr6, ht6⟩
        have es : splice (List.replicate F 0) 0 (form x) = form x := by
          unfold splice
          rw [Nat.zero_add, ← HF.out, List.drop_of_length_le (by simp)]
          simp
        rw [es] at hr6
        have b6 : Below w.heap.size w w6 := (ch HB1.out (ch HB4.out HW5.out.2)).trans (ht6.below (fun i q => by have := HB1.out.size; have := HB4.out.size; omega) (by have := HB1.out.size; have := HB4.out.size; have := HW5.out.2.size; omega))
        have s6 : Str w6 (fun i => w.heap.size ≤ i) (.slice (some ⟨w4.heap.size, 0, none⟩) F F) (form x) := by
          have := Rm.str (F := fun i => w.heap.size ≤ i) hr6 (by have := HB1.out.size; have := HB4.out.size; omega) (form_lt x _ _ HL.out HM.out (by have := HF.out; omega)) (by have := HF.out; omega)
          rw [← HF.out] at this
          exact this
        have HZ : Hid (Str w6 (fun i => w.heap.size ≤ i) (.slice (some ⟨w4.heap.size, 0, none⟩) F F) (form x) ∧ Below w.heap.size w w6) := ⟨s6, b6⟩
        clear hr6 ht6 es b6 s6
        go_wp2_with fail
        go_ret2
        exact ⟨_, by rw [HE.out.1]; rfl, by rw [HE.out.2]; exact HZ.out.1, HZ.out.2⟩
    · have hmf : may x = false := by simpa using hm
      rw [hmf] at K2
      have HE : Hid (encE x = 52 ∧ enc x = []) := by
        have : encE x = 52 := by unfold encE; rw [if_neg hd, if_pos hmf]
        exact ⟨this, by unfold enc; rw [this]; rfl⟩
      go_enter Try.func22, Try.ntmps22
      go_wp2_with fail
      rw [← HW1.out]
      refine K1.mono ?_
      rintro e w2 ⟨rfl, hb2⟩
      obtain ⟨y0, y1, y2⟩ := HBX.out w2 hb2
      have HB2 : Hid (Below w1.heap.size w1 w2) := hb2
      clear hb2 x0 x1 x2 K1 hd hd' hm hmf
      go_wp2_with fail
      refine (K2 _ HB2.out).mono ?_
      rintro e w3 ⟨rfl, hb3⟩
      have HB3 : Hid (Below w.heap.size w w3) := ch HB1.out (ch HB2.out hb3)
      clear hb3 y0 y1 y2 K2
      go_wp2_with fail
      go_ret2
      exact ⟨_, by rw [HE.out.1]; rfl, by rw [HE.out.2]; exact str_nil _ _, HB3.out⟩
end Go.Proofs.Ytledfigfokoiiaa
