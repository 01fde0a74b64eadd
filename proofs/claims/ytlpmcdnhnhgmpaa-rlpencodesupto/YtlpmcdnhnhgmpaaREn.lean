/-
  cairnref05: Encode.
-/
import Derived.Test.YtlpmcdnhnhgmpaaRFm
import Derived.Test.YtlpmcdnhnhgmpaaRDp
namespace Go.Proofs.Ytlpmcdnhnhgmpaa
open Go.RowKit

set_option maxRecDepth 100000 in
set_option maxHeartbeats 3200000 in
theorem renc_any (x : It) (w : World) (vb vi : Value) (h : Lies Vb w x vb vi) (hfl : (form x).length ≤ 1099511627776) :
    Calls Try.prog 19 #[iv x.l vb vi] w fun e w' => ∃ v, e = .returned (.tuple #[v, .int .i64 (encE x)]) ∧ Str w' (fun i => w.heap.size ≤ i) v (enc x) ∧ Below w.heap.size w w' := by
  obtain ⟨a1, n1, k1, a2, n2, k2, rfl, rfl⟩ := h.form
  obtain ⟨l, el⟩ : ∃ l, l = x.l := ⟨_, rfl⟩
  obtain ⟨w1, ew1⟩ : ∃ w1, w1 = w.alloc (.cells #[.bool l, .slice a1 n1 k1, .slice a2 n2 k2] 34) := ⟨_, rfl⟩
  have HW1 : Hid (w1 = w.alloc (.cells #[.bool l, .slice a1 n1 k1, .slice a2 n2 k2] 34)) := ew1
  have bw1 : Below w.heap.size w w1 := by rw [ew1]; exact below_alloc w _
  have HBX : Hid (∀ wr, Below w1.heap.size w1 wr → wr.cell? ⟨w.heap.size, 0, none⟩ = some (.bool l) ∧ wr.cell? ⟨w.heap.size, 1, none⟩ = some (.slice a1 n1 k1) ∧ wr.cell? ⟨w.heap.size, 2, none⟩ = some (.slice a2 n2 k2)) := fun wr h => by
    rw [ew1] at h
    exact box_keep h
  have HB1 : Hid (Below w.heap.size w w1) := bw1
  have HL : Hid (Lies Vb w1 x (.slice a1 n1 k1) (.slice a2 n2 k2)) := h.keep bw1
  have K1 := rdeep_any x w1 _ _ 0 HL.out (by omega)
  have K2 := fun w2 (hb : Below w1.heap.size w1 w2) => rmay_any x w2 _ _ (HL.out.keep hb)
  have K3 := fun w2 (hb : Below w1.heap.size w1 w2) => rform_any x w2 _ _ (HL.out.keep hb) hfl
  have HOK : Hid (∀ y ∈ form x, y < 256) := form_lt2 x _ _ h hfl
  rw [← el] at K1 K2 K3 ⊢
  clear h el ew1 bw1
  go_enter Try.func19, Try.ntmps19
  go_wp2_with fail
  rw [← HW1.out]
  refine K1.mono ?_
  rintro e w2 ⟨D, rfl, ⟨-, hD2, hD3⟩, hb2⟩
  rw [Nat.zero_add] at hD3
  obtain ⟨y0, y1, y2⟩ := HBX.out w2 hb2
  have HB2 : Hid (Below w1.heap.size w1 w2) := hb2
  clear hb2 K1
  by_cases hd : 80 < dp x
  · have HE : Hid (encE x = 53 ∧ enc x = []) := by
      have : encE x = 53 := by unfold encE; rw [if_pos hd]
      exact ⟨this, by unfold enc; rw [this]; rfl⟩
    have i1 : (80 : Int) < (D : Int) := by have := hD3.2 hd; omega
    clear hD3 hd K2 K3
    go_wp2_with fail
    go_ret2
    exact ⟨_, by rw [HE.out.1]; rfl, by rw [HE.out.2]; exact str_nil _ _, ch HB1.out HB2.out⟩
  · have i1 : ¬ (80 : Int) < (D : Int) := by have := mt hD3.1 hd; omega
    have HD : Hid (¬ 80 < dp x) := hd
    clear hD3 hd
    by_cases hm : may x = true
    · rw [hm] at K2
      have HM : Hid (may x = true) := hm
      clear hm
      go_wp2_with fail
      refine (K2 _ HB2.out).mono ?_
      rintro e w3 ⟨rfl, hb3⟩
      have HB3 : Hid (Below w1.heap.size w1 w3) := ch HB2.out hb3
      obtain ⟨z0, z1, z2⟩ := HBX.out w3 HB3.out
      clear hb3 y0 y1 y2 HB2 K2
      go_wp2_with fail
      refine (K3 _ HB3.out).mono ?_
      rintro e w4 ⟨v4, rfl, ho4, hb4⟩
      obtain ⟨av, cv, ev⟩ := own_slice ho4
      subst ev
      obtain ⟨F, eF⟩ : ∃ F, F = (form x).length := ⟨_, rfl⟩
      rw [← eF] at hfl ho4 ⊢
      have HF : Hid (F = (form x).length) := eF
      have HB4 : Hid (Below w.heap.size w w4) := ch HB1.out (ch HB3.out hb4)
      have HO4 : Hid (Str w4 (fun i => w.heap.size ≤ i) (.slice av F cv) (form x)) := ⟨by rw [← eF]; exact own_base ho4, fun g hg => by
        have := (ho4.lt g hg).1
        have := HB3.out.size
        have := HB1.out.size
        omega, ⟨by omega, HOK.out⟩⟩
      clear ho4 hb4 eF K3 z0 z1 z2
      by_cases hf : 1048576 < F
      · have HE : Hid (encE x = 54 ∧ enc x = []) := by
          have : encE x = 54 := by unfold encE; rw [if_neg HD.out, if_neg (by simp [HM.out]), if_pos (by rw [← HF.out]; exact hf)]
          exact ⟨this, by unfold enc; rw [this]; rfl⟩
        have i2 : (1048576 : Int) < (F : Int) := by omega
        go_wp2_with fail
        go_ret2
        exact ⟨_, by rw [HE.out.1]; rfl, by rw [HE.out.2]; exact str_nil _ _, HB4.out⟩
      · have HE : Hid (encE x = 0 ∧ enc x = form x) := by
          have : encE x = 0 := by unfold encE; rw [if_neg HD.out, if_neg (by simp [HM.out]), if_neg (by rw [← HF.out]; exact hf)]
          exact ⟨this, by unfold enc; rw [this]; rfl⟩
        have i2 : ¬ (1048576 : Int) < (F : Int) := by omega
        go_wp2_with fail
        go_ret2
        exact ⟨_, by rw [HE.out.1]; rfl, by rw [HE.out.2]; exact HO4.out, HB4.out⟩
    · have hmf : may x = false := by simpa using hm
      rw [hmf] at K2
      have HE : Hid (encE x = 52 ∧ enc x = []) := by
        have : encE x = 52 := by unfold encE; rw [if_neg HD.out, if_pos hmf]
        exact ⟨this, by unfold enc; rw [this]; rfl⟩
      clear hm hmf K3
      go_wp2_with fail
      refine (K2 _ HB2.out).mono ?_
      rintro e w3 ⟨rfl, hb3⟩
      have HB3 : Hid (Below w.heap.size w w3) := ch HB1.out (ch HB2.out hb3)
      clear hb3 y0 y1 y2 K2
      go_wp2_with fail
      go_ret2
      exact ⟨_, by rw [HE.out.1]; rfl, by rw [HE.out.2]; exact str_nil _ _, HB3.out⟩
end Go.Proofs.Ytlpmcdnhnhgmpaa
