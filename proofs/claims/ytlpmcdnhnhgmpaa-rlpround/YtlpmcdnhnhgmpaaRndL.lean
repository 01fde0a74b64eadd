/-
  RlpRound: the law, walked.
-/
import Derived.Test.YtlpmcdnhnhgmpaaRnd
namespace Go.Proofs.Ytlpmcdnhnhgmpaa
open Go.RowKit

/-- two strings of the same bytes are one text -/
theorem conv_str {w w' : World} {F : Nat → Prop} {v : Value} {s : List Nat} (h : Str w F v s) (k : Below w.heap.size w w') : (convert 22 9 v).run Try.prog w' = .ok (.string (str s.length (fun i => ((gd s i : Nat) : Int)))) w' := by
  obtain ⟨a, g, c, rfl, -, hv, -⟩ := h.view
  exact convert_view (hv.below k) c

set_option maxRecDepth 100000 in
set_option maxHeartbeats 3200000 in
theorem round_any (w : World) (x : It) (vb vi : Value) (hx : Lies Vb w x vb vi) (s : List Nat) (vs : Value) (hs : Vb w vs s) :
    Calls Try.prog 5 #[iv x.l vb vi, vs] w fun e w' => e = .returned (.bool true) ∧ Below w.heap.size w w' := by
  obtain ⟨a1, n1, c1, a2, n2, c2, rfl, rfl⟩ := hx.form
  obtain ⟨aS, gS, oS, cS, rfl, vS, hcS, hnS, hlS⟩ := hs
  obtain ⟨l, el⟩ : ∃ l, l = x.l := ⟨_, rfl⟩
  obtain ⟨W, eW⟩ : ∃ W, W = w.alloc (.cells #[.bool l, .slice a1 n1 c1, .slice a2 n2 c2] 34) := ⟨_, rfl⟩
  have bW : Below w.heap.size w W := by rw [eW]; exact below_alloc _ _
  have xW : Bx W w.heap.size 34 (.bool l) (.slice a1 n1 c1) (.slice a2 n2 c2) := by rw [eW]; exact heap_alloc_new _ _
  have HW : Hid (W = w.alloc (.cells #[.bool l, .slice a1 n1 c1, .slice a2 n2 c2] 34) ∧ Below w.heap.size w W) := ⟨eW, bW⟩
  have HBX : Hid (∀ w', Below W.heap.size W w' → w'.cell? ⟨w.heap.size, 0, none⟩ = some (.bool l) ∧ w'.cell? ⟨w.heap.size, 1, none⟩ = some (.slice a1 n1 c1) ∧ w'.cell? ⟨w.heap.size, 2, none⟩ = some (.slice a2 n2 c2)) := fun w' k => by
    have := (xW.keep (k.block _ xW.lt)).cells
    exact ⟨this.1, this.2.1, this.2.2.1⟩
  have HL : Hid (Lies Vb w x (.slice a1 n1 c1) (.slice a2 n2 c2)) := hx
  have HV : Hid (Vw w aS gS oS s ∧ s.length ≤ cS ∧ s.length ≤ 140737488351232) := ⟨vS, hcS, hlS⟩
  have KA := awake_any W
  rw [← el]
  have HEL : Hid (l = x.l) := el
  clear hx vS el eW bW xW
  have vok := (vw_ok HV.out.1).2
  have HDC : Hid ((decE s ≠ 0 ∧ decX s = .mk false [] [] ∧ decP s ≤ s.length) ∨ (decE s = 0 ∧ decP s = 0 ∧ encE (decX s) = 0 ∧ enc (decX s) = s)) := dec_cases vok
  clear vok
  obtain ⟨n, en⟩ : ∃ n, n = s.length := ⟨_, rfl⟩
  have HN : Hid (n = s.length) := en
  rw [← en] at hcS hlS ⊢
  clear en
  go_enter Try.func5, Try.ntmps5
  go_wp2_with fail
  rw [← HW.out.1]
  refine KA.mono ?_
  rintro e w1 ⟨rfl, b1⟩
  obtain ⟨x0, x1, x2⟩ := HBX.out w1 b1
  have HB1 : Hid (Below W.heap.size W w1) := b1
  have K1 := item_any x w1 _ _ (HL.out.keep (ch HW.out.2 b1))
  rw [← HEL.out] at K1
  clear b1 KA
  go_wp2_with fail
  refine K1.mono ?_
  rintro e w2 ⟨vb2, vi2, rfl, o2, b2⟩
  obtain ⟨e1, m1, d1, e2, m2, d2, rfl, rfl⟩ := o2.lies.form
  have K2 := encode_any x w2 _ _ o2.lies
  rw [← HEL.out] at K2
  have HB2 : Hid (Below W.heap.size W w2) := ch HB1.out b2
  clear o2 b2 K1 x0 x1 x2
  go_wp2_with fail
  refine K2.mono ?_
  rintro e w3 ⟨v3, rfl, s3, b3⟩
  have HB3 : Hid (Below W.heap.size W w3) := ch HB2.out b3
  clear K2 b3
  obtain ⟨a3, c3, e3⟩ := own_slice s3.own
  subst e3
  by_cases hE0 : encE x = 0
  · rw [hE0]
    obtain ⟨hdec, -, -, -, -⟩ := enc_back hE0
    obtain ⟨a3', g3, c3', e3, hc3, vv3, -⟩ := s3.view
    injection e3 with q1 _ q3
    subst q1
    subst q3
    have K4 := decode_any w3 a3 g3 0 c3 _ vv3 hc3 (by have := (enc_back hE0).2.2.2.1; rw [(enc_back hE0).2.2.2.2]; omega)
    obtain ⟨dX, dP, dE⟩ := decXPE hdec
    obtain ⟨n3, en3⟩ : ∃ n3, n3 = (enc x).length := ⟨_, rfl⟩
    rw [← en3] at K4 ⊢
    clear vv3 hc3 s3 hdec hE0 en3
    go_wp2_with fail
    refine K4.mono ?_
    rintro e w4 ⟨vb4, vi4, rfl, o4, b4⟩
    rw [dX] at o4
    rw [dX, dP, dE, ← HEL.out]
    obtain ⟨y1, y2, y3, y4, y5, y6, rfl, rfl⟩ := o4.lies.form
    obtain ⟨wY, eY⟩ : ∃ wY, wY = w4.alloc (.cells #[.bool l, .slice y1 y2 y3, .slice y4 y5 y6] 25) := ⟨_, rfl⟩
    have bY : Below w4.heap.size w4 wY := by rw [eY]; exact below_alloc _ _
    have yY : Bx wY w4.heap.size 25 (.bool l) (.slice y1 y2 y3) (.slice y4 y5 y6) := by rw [eY]; exact heap_alloc_new _ _
    have HBY : Hid (Below W.heap.size W wY ∧ wY = w4.alloc (.cells #[.bool l, .slice y1 y2 y3, .slice y4 y5 y6] 25)) := ⟨ch HB3.out (ch b4 bY), eY⟩
    have HSS : Hid (∀ w', Below wY.heap.size wY w' → (w'.cell? ⟨w4.heap.size, 0, none⟩ = some (.bool l) ∧ w'.cell? ⟨w4.heap.size, 1, none⟩ = some (.slice y1 y2 y3) ∧ w'.cell? ⟨w4.heap.size, 2, none⟩ = some (.slice y4 y5 y6)) ∧ (w'.cell? ⟨w.heap.size, 0, none⟩ = some (.bool l) ∧ w'.cell? ⟨w.heap.size, 1, none⟩ = some (.slice a1 n1 c1) ∧ w'.cell? ⟨w.heap.size, 2, none⟩ = some (.slice a2 n2 c2))) := fun w' k => by
      have q := (yY.keep (k.block _ yY.lt)).cells
      exact ⟨⟨q.1, q.2.1, q.2.2.1⟩, HBX.out w' (ch HBY.out.1 k)⟩
    have HKB : Hid (Calls Try.prog 11 #[iv l (.slice y1 y2 y3) (.slice y4 y5 y6)] wY.drew fun e w'' => ∃ vb' vi', e = .returned (iv l vb' vi') ∧ Og 34 [] w'' wY.drew.heap.size w''.heap.size x vb' vi' ∧ Below wY.drew.heap.size wY.drew w'') := by
      have := back_any x wY.drew _ _ (o4.lies.keep (ch bY (Below.drew (Below.refl _ _))))
      rw [← HEL.out] at this
      exact this
    clear o4 b4 K4 dX dP dE bY yY eY
    go_wp2_with fail
    rw [← HBY.out.2]
    go_region_held3 (fun w' => (w'.cell? ⟨w4.heap.size, 0, none⟩ = some (.bool l) ∧ w'.cell? ⟨w4.heap.size, 1, none⟩ = some (.slice y1 y2 y3) ∧ w'.cell? ⟨w4.heap.size, 2, none⟩ = some (.slice y4 y5 y6)) ∧ (w'.cell? ⟨w.heap.size, 0, none⟩ = some (.bool l) ∧ w'.cell? ⟨w.heap.size, 1, none⟩ = some (.slice a1 n1 c1) ∧ w'.cell? ⟨w.heap.size, 2, none⟩ = some (.slice a2 n2 c2)))
      (first | (exact HSS.out _ (by assumption)) | (exact HSS.out _ (Below.drew (Below.refl _ _))))
      (first
        | (go_at_call 11; refine HKB.out.mono ?_; rintro e w5 ⟨vb5, vi5, rfl, o5, bb5⟩; obtain ⟨g1, g2, g3', g4, g5, g6, rfl, rfl⟩ := o5.lies.form; have B5 : Below wY.heap.size wY w5 := ch (Below.drew (Below.refl _ _)) bb5; have S5 := same_any x w5 _ _ _ _ o5.lies (HL.out.keep (ch (ch HW.out.2 HBY.out.1) B5)); rw [← HEL.out] at S5)
        | (go_at_call 10; refine S5.mono ?_; rintro e w6 ⟨rfl, bb6⟩; have B6 : Below wY.heap.size wY w6 := ch B5 bb6))
    have HBC : Hid (Below W.heap.size W w6) := ch HBY.out.1 B6
    clear o5 bb5 B5 S5 bb6 B6
    go_wp2_with fail
    have K5 := decode_any w6 aS gS oS cS s (HV.out.1.below (ch HW.out.2 HBC.out)) HV.out.2.1 (by have := HV.out.2.2; omega)
    rw [← HN.out] at K5
    refine K5.mono ?_
    rintro e w8 ⟨vb8, vi8, rfl, o8, b8⟩
    have HB8 : Hid (Below w6.heap.size w6 w8) := b8
    rcases HDC.out with ⟨hE, hX, hP⟩ | ⟨hE, hP, hEE, hEn⟩
    · rw [hX] at o8
      rw [hX, show (It.mk false [] []).l = false from rfl]
      obtain ⟨f1, f2, f3, f4, f5, f6, rfl, rfl, -, -⟩ := o8.lies.opened
      rw [show ([] : List Nat).length = 0 from rfl, show ([] : List It).length = 0 from rfl]
      have mE : ¬ ((decE s : Nat) : Int) = 0 := by omega
      rw [← HN.out] at hP
      have mP : ((decP s : Nat) : Int) ≤ (n : Int) := by omega
      have mP0 : (0 : Int) ≤ ((decP s : Nat) : Int) := by omega
      have HZ : Hid (Below w.heap.size w w8) := ch (ch HW.out.2 HBC.out) b8
      clear o8 b8 K5 hX hE hP
      generalize decE s = E at *
      generalize decP s = P at *
      go_wp2_with fail
      go_ret
      exact ⟨rfl, ch HZ.out (below_alloc _ _)⟩
    · obtain ⟨X, eX⟩ : ∃ X, X = decX s := ⟨_, rfl⟩
      rw [← eX] at o8 hEE hEn
      rw [← eX, hE, hP]
      obtain ⟨f1, f2, f3, f4, f5, f6, rfl, rfl⟩ := o8.lies.form
      obtain ⟨lX, elX⟩ : ∃ lX, lX = X.l := ⟨_, rfl⟩
      obtain ⟨wZ, eZ⟩ : ∃ wZ, wZ = w8.alloc (.cells #[.bool lX, .slice f1 f2 f3, .slice f4 f5 f6] 25) := ⟨_, rfl⟩
      have bZ : Below w8.heap.size w8 wZ := by rw [eZ]; exact below_alloc _ _
      have K6 := encode_any X wZ _ _ (o8.lies.keep bZ)
      rw [hEE, hEn, ← elX] at K6
      rw [← elX]
      have HZ : Hid (Below w6.heap.size w6 wZ ∧ wZ = w8.alloc (.cells #[.bool lX, .slice f1 f2 f3, .slice f4 f5 f6] 25)) := ⟨ch b8 bZ, eZ⟩
      clear o8 b8 K5 hE hP hEE hEn bZ eZ elX eX
      go_wp2_with fail
      rw [← HZ.out.2]
      refine K6.mono ?_
      rintro e w9 ⟨v9, rfl, s9, b9⟩
      obtain ⟨g1, g2, g3, rfl, -, vv9, -⟩ := s9.view
      have cvA := convert_view vv9 g3
      have cvB := convert_view (HV.out.1.below (ch (ch HW.out.2 HBC.out) (ch HZ.out.1 b9))) cS
      rw [← HN.out] at cvA cvB ⊢
      generalize str n (fun i => ((gd s i : Nat) : Int)) = S at cvA cvB
      have HZ9 : Hid (Below w.heap.size w w9) := ch (ch HW.out.2 HBC.out) (ch HZ.out.1 b9)
      clear s9 b9 K6 vv9
      go_wp2_with fail
      go_ret
      exact ⟨rfl, HZ9.out⟩
  · have hE1 : ¬ ((encE x : Nat) : Int) = 0 := by omega
    have HBC : Hid (Below W.heap.size W w3) := HB3.out
    obtain ⟨n3, en3⟩ : ∃ n3, n3 = (enc x).length := ⟨_, rfl⟩
    rw [← en3]
    generalize encE x = EE at *
    clear s3 en3 hE0
    go_wp2_with fail
    have K5 := decode_any w3 aS gS oS cS s (HV.out.1.below (ch HW.out.2 HBC.out)) HV.out.2.1 (by have := HV.out.2.2; omega)
    rw [← HN.out] at K5
    refine K5.mono ?_
    rintro e w8 ⟨vb8, vi8, rfl, o8, b8⟩
    have HB8 : Hid (Below w3.heap.size w3 w8) := b8
    rcases HDC.out with ⟨hE, hX, hP⟩ | ⟨hE, hP, hEE, hEn⟩
    · rw [hX] at o8
      rw [hX, show (It.mk false [] []).l = false from rfl]
      obtain ⟨f1, f2, f3, f4, f5, f6, rfl, rfl, -, -⟩ := o8.lies.opened
      rw [show ([] : List Nat).length = 0 from rfl, show ([] : List It).length = 0 from rfl]
      have mE : ¬ ((decE s : Nat) : Int) = 0 := by omega
      rw [← HN.out] at hP
      have mP : ((decP s : Nat) : Int) ≤ (n : Int) := by omega
      have mP0 : (0 : Int) ≤ ((decP s : Nat) : Int) := by omega
      have HZ : Hid (Below w.heap.size w w8) := ch (ch HW.out.2 HBC.out) b8
      clear o8 b8 K5 hX hE hP
      generalize decE s = E at *
      generalize decP s = P at *
      go_wp2_with fail
      go_ret
      exact ⟨rfl, ch HZ.out (below_alloc _ _)⟩
    · obtain ⟨X, eX⟩ : ∃ X, X = decX s := ⟨_, rfl⟩
      rw [← eX] at o8 hEE hEn
      rw [← eX, hE, hP]
      obtain ⟨f1, f2, f3, f4, f5, f6, rfl, rfl⟩ := o8.lies.form
      obtain ⟨lX, elX⟩ : ∃ lX, lX = X.l := ⟨_, rfl⟩
      obtain ⟨wZ, eZ⟩ : ∃ wZ, wZ = w8.alloc (.cells #[.bool lX, .slice f1 f2 f3, .slice f4 f5 f6] 25) := ⟨_, rfl⟩
      have bZ : Below w8.heap.size w8 wZ := by rw [eZ]; exact below_alloc _ _
      have K6 := encode_any X wZ _ _ (o8.lies.keep bZ)
      rw [hEE, hEn, ← elX] at K6
      rw [← elX]
      have HZ : Hid (Below w3.heap.size w3 wZ ∧ wZ = w8.alloc (.cells #[.bool lX, .slice f1 f2 f3, .slice f4 f5 f6] 25)) := ⟨ch b8 bZ, eZ⟩
      clear o8 b8 K5 hE hP hEE hEn bZ eZ elX eX
      go_wp2_with fail
      rw [← HZ.out.2]
      refine K6.mono ?_
      rintro e w9 ⟨v9, rfl, s9, b9⟩
      obtain ⟨g1, g2, g3, rfl, -, vv9, -⟩ := s9.view
      have cvA := convert_view vv9 g3
      have cvB := convert_view (HV.out.1.below (ch (ch HW.out.2 HBC.out) (ch HZ.out.1 b9))) cS
      rw [← HN.out] at cvA cvB ⊢
      generalize str n (fun i => ((gd s i : Nat) : Int)) = S at cvA cvB
      have HZ9 : Hid (Below w.heap.size w w9) := ch (ch HW.out.2 HBC.out) (ch HZ.out.1 b9)
      clear s9 b9 K6 vv9
      go_wp2_with fail
      go_ret
      exact ⟨rfl, HZ9.out⟩
end Go.Proofs.Ytlpmcdnhnhgmpaa
