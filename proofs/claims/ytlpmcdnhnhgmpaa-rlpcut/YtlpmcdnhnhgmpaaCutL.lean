/-
  RlpCut: the law, walked.
-/
import Derived.Test.YtlpmcdnhnhgmpaaCut
namespace Go.Proofs.Ytlpmcdnhnhgmpaa
open Go.RowKit

/-- bytes appended to new ones -/
theorem str_own {w : World} {B n : Nat} {v : Value} {s : List Nat} (h : w.ownsRow B 5 1 v n (bv s)) (hn : n = s.length) (ok : ∀ x ∈ s, x < 256) (hl : n ≤ 140737488355328) : Str w (fun i => B ≤ i) v s :=
  ⟨by subst hn; exact own_base h, fun g hg => (h.lt g hg).1, ⟨by omega, ok⟩⟩

set_option maxRecDepth 100000 in
set_option maxHeartbeats 3200000 in
theorem cut_any (w : World) (x y : It) (xb xi yb yi : Value) (hx : Lies Vb w x xb xi) (hy : Lies Vb w y yb yi) (at_ : Int) (s : List Nat) (vs : Value) (hs : Vb w vs s) :
    Calls Try.prog 4 #[.agg #[.bool x.l, xb, xi, .bool y.l, yb, yi], .int .i64 at_, vs] w fun e w' => e = .returned (.bool true) ∧ Below w.heap.size w w' := by
  obtain ⟨a1, n1, c1, a2, n2, c2, rfl, rfl⟩ := hx.form
  obtain ⟨a3, n3, c3, a4, n4, c4, rfl, rfl⟩ := hy.form
  obtain ⟨aS, gS, oS, cS, rfl, vS, hcS, hnS, hlS⟩ := hs
  obtain ⟨l, el⟩ : ∃ l, l = x.l := ⟨_, rfl⟩
  obtain ⟨m, em⟩ : ∃ m, m = y.l := ⟨_, rfl⟩
  obtain ⟨W, eW⟩ : ∃ W, W = w.alloc (.cells #[.bool l, .slice a1 n1 c1, .slice a2 n2 c2, .bool m, .slice a3 n3 c3, .slice a4 n4 c4] 38) := ⟨_, rfl⟩
  have bW : Below w.heap.size w W := by rw [eW]; exact below_alloc _ _
  have HW : Hid (W = w.alloc (.cells #[.bool l, .slice a1 n1 c1, .slice a2 n2 c2, .bool m, .slice a3 n3 c3, .slice a4 n4 c4] 38) ∧ Below w.heap.size w W) := ⟨eW, bW⟩
  have HBX : Hid (∀ w', Below W.heap.size W w' → ∀ j, w'.cell? ⟨w.heap.size, j, none⟩ = #[.bool l, .slice a1 n1 c1, .slice a2 n2 c2, .bool m, .slice a3 n3 c3, .slice a4 n4 c4][j]?) := fun w' k j => by
    have hl : w.heap.size < W.heap.size := by rw [eW]; simp
    rw [k.cell (p := ⟨w.heap.size, j, none⟩) hl, eW]
    exact cell_of_row _ _ _ _ _ _ (heap_alloc_new w _)
  have HL : Hid (Lies Vb w x (.slice a1 n1 c1) (.slice a2 n2 c2) ∧ Lies Vb w y (.slice a3 n3 c3) (.slice a4 n4 c4)) := ⟨hx, hy⟩
  have HV : Hid (Vw w aS gS oS s ∧ s.length ≤ cS ∧ (aS = none → cS = 0) ∧ s.length ≤ 140737488351232) := ⟨vS, hcS, hnS, hlS⟩
  have KA := awake_any W
  rw [← el, ← em]
  have HEL : Hid (l = x.l ∧ m = y.l) := ⟨el, em⟩
  obtain ⟨n, en⟩ : ∃ n, n = s.length := ⟨_, rfl⟩
  have HN : Hid (n = s.length) := en
  rw [← en] at hcS hlS ⊢
  clear hx hy vS el em eW bW en hnS
  go_enter Try.func4, Try.ntmps4
  go_wp2_with fail
  rw [← HW.out.1]
  refine KA.mono ?_
  rintro e w1 ⟨rfl, b1⟩
  have HB1 : Hid (Below W.heap.size W w1) := b1
  have q := HBX.out w1 b1
  have q0 := q 0
  have q1 := q 1
  have q2 := q 2
  simp at q0 q1 q2
  obtain ⟨wx, ewx⟩ : ∃ wx, wx = w1.alloc (.cells #[.bool l, .slice a1 n1 c1, .slice a2 n2 c2] 34) := ⟨_, rfl⟩
  have bx : Below w1.heap.size w1 wx := by rw [ewx]; exact below_alloc _ _
  have r := HBX.out wx (ch b1 bx)
  have r3 := r 3
  have r4 := r 4
  have r5 := r 5
  simp at r3 r4 r5
  rw [ewx] at r3 r4 r5
  clear b1 KA q r
  go_wp2_with fail
  obtain ⟨wy, ewy⟩ : ∃ wy, wy = wx.alloc (.cells #[.bool m, .slice a3 n3 c3, .slice a4 n4 c4] 34) := ⟨_, rfl⟩
  have by_ : Below wx.heap.size wx wy := by rw [ewy]; exact below_alloc _ _
  have sx : wx.heap.size = w1.heap.size + 1 := by rw [ewx]; simp
  have yY : Bx wy (w1.heap.size + 1) 34 (.bool m) (.slice a3 n3 c3) (.slice a4 n4 c4) := by
    rw [ewy, ← sx]
    exact heap_alloc_new _ _
  rw [← ewx, ← ewy]
  have HBY : Hid (Below W.heap.size W wy ∧ Bx wy (w1.heap.size + 1) 34 (.bool m) (.slice a3 n3 c3) (.slice a4 n4 c4)) := ⟨ch HB1.out (ch bx by_), yY⟩
  have K1 := item_any x wy _ _ (HL.out.1.keep (ch HW.out.2 HBY.out.1))
  rw [← HEL.out.1] at K1
  clear q0 q1 q2 r3 r4 r5 bx by_ sx yY ewx ewy
  refine K1.mono ?_
  rintro e w2 ⟨vb2, vi2, rfl, o2, b2⟩
  obtain ⟨e1, m1, d1, e2, m2, d2, rfl, rfl⟩ := o2.lies.form
  have K2 := encode_any x w2 _ _ o2.lies
  rw [← HEL.out.1] at K2
  have HB2 : Hid (Below wy.heap.size wy w2) := b2
  clear o2 b2 K1
  go_wp2_with fail
  refine K2.mono ?_
  rintro e w3 ⟨v3, rfl, s3, b3⟩
  obtain ⟨aA, cA, eA⟩ := own_slice s3.own
  subst eA
  have HA : Hid (Str w3 (fun _ => True) (.slice aA (enc x).length cA) (enc x) ∧ Below wy.heap.size wy w3) := ⟨⟨s3.own, fun _ _ => trivial, s3.ok⟩, ch HB2.out b3⟩
  obtain ⟨y0, y1, y2, -⟩ := (HBY.out.2.keep (HA.out.2.block _ HBY.out.2.lt)).cells
  have K3 := item_any y w3 _ _ (HL.out.2.keep (ch (ch HW.out.2 HBY.out.1) HA.out.2))
  rw [← HEL.out.2] at K3
  obtain ⟨EX, eEX⟩ : ∃ E, E = encE x := ⟨_, rfl⟩
  obtain ⟨nA, enA⟩ : ∃ k, k = (enc x).length := ⟨_, rfl⟩
  have HX : Hid (EX = encE x ∧ nA = (enc x).length) := ⟨eEX, enA⟩
  rw [← eEX, ← enA]
  clear s3 b3 K2 eEX enA
  go_wp2_with fail
  refine K3.mono ?_
  rintro e w4 ⟨vb4, vi4, rfl, o4, b4⟩
  obtain ⟨e3, m3, d3, e4, m4, d4, rfl, rfl⟩ := o4.lies.form
  have K4 := encode_any y w4 _ _ o4.lies
  rw [← HEL.out.2] at K4
  have HB4 : Hid (Below w3.heap.size w3 w4) := b4
  clear o4 b4 K3 y0 y1 y2
  go_wp2_with fail
  refine K4.mono ?_
  rintro e w5 ⟨v5, rfl, s5, b5⟩
  obtain ⟨aB, cB, eB⟩ := own_slice s5.own
  subst eB
  have HB : Hid (Str w5 (fun _ => True) (.slice aB (enc y).length cB) (enc y) ∧ Below w3.heap.size w3 w5) := ⟨⟨s5.own, fun _ _ => trivial, s5.ok⟩, ch HB4.out b5⟩
  obtain ⟨EY, eEY⟩ : ∃ E, E = encE y := ⟨_, rfl⟩
  obtain ⟨nB, enB⟩ : ∃ k, k = (enc y).length := ⟨_, rfl⟩
  have HY : Hid (EY = encE y ∧ nB = (enc y).length) := ⟨eEY, enB⟩
  rw [← eEY, ← enB]
  have HB5 : Hid (Below w.heap.size w w5) := ch (ch (ch HW.out.2 HBY.out.1) HA.out.2) HB.out.2
  have lenA : nA ≤ 1048576 := by
    rw [HX.out.2]
    by_cases h0 : encE x = 0
    · rw [(enc_back h0).2.2.2.2]; exact (enc_back h0).2.2.2.1
    · unfold enc; rw [if_neg h0]; simp
  have lenB : nB ≤ 1048576 := by
    rw [HY.out.2]
    by_cases h0 : encE y = 0
    · rw [(enc_back h0).2.2.2.2]; exact (enc_back h0).2.2.2.1
    · unfold enc; rw [if_neg h0]; simp
  have HZ0 : Hid (EX ≠ 0 → nA = 0) := fun h => by rw [HX.out.2]; unfold enc; rw [if_neg (by rw [← HX.out.1]; exact h)]; rfl
  clear s5 b5 K4 eEY enB
  by_cases hEX : EX = 0
  · subst hEX
    by_cases hEY : EY = 0
    · subst hEY
      by_cases hsum : 1048576 < nA + nB + n
      · have i1 : (1048576 : Int) < (nA : Int) + nB + n := by omega
        by_cases hA0 : nA = 0
        · subst hA0
          go_wp2_with fail
          go_ret
          exact ⟨rfl, HB5.out⟩
        · have i2 : ¬ (nA : Int) = 0 := by omega
          go_wp2_with fail
          go_ret
          exact ⟨rfl, HB5.out⟩
      · have i1 : ¬ (1048576 : Int) < (nA : Int) + nB + n := by omega
        obtain ⟨hdx, px, mx, lx, ex⟩ := enc_back HX.out.1.symm
        obtain ⟨hdy, py, my, ly, ey⟩ := enc_back HY.out.1.symm
        have fpx := form_pos x
        have fpy := form_pos y
        have enA2 : nA = (form x).length := by rw [HX.out.2, ex]
        have enB2 : nB = (form y).length := by rw [HY.out.2, ey]
        obtain ⟨tA, etA⟩ : ∃ t, t = form x := ⟨_, rfl⟩
        obtain ⟨tB, etB⟩ : ∃ t, t = form y := ⟨_, rfl⟩
        obtain ⟨K, hK⟩ : ∃ K : Nat, at_ % (nA : Int) = K := ⟨(at_ % (nA : Int)).toNat, by have := Int.emod_nonneg at_ (show (nA : Int) ≠ 0 by omega); omega⟩
        have hKl : K < nA := by have := Int.emod_lt_of_pos at_ (show (0 : Int) < nA by omega); omega
        have r := rest_eq at_ nA (by omega)
        rw [hK] at r
        have rb1 : -(nA : Int) < at_.tmod nA := Int.lt_tmod_of_pos at_ (by omega)
        have rb2 : at_.tmod nA < nA := Int.tmod_lt_of_pos at_ (by omega)
        have HD1 : Hid (dec (tA.take K) = .bad 0 50) := by rw [etA]; exact dec_cut mx px lx (by omega)
        have HD2 : Hid (∀ t : List Nat, t.length = nB + n → dec (tA ++ t) = .bad nA 51) := fun t ht => by rw [etA, enA2]; exact dec_more mx px (by omega) (by omega)
        have HD3 : Hid (spE (tA ++ tB) = 0 ∧ sp1 (tA ++ tB) = tA ∧ sp2 (tA ++ tB) = tB) := by rw [etA, etB]; exact split_more mx px (by omega) fpy
        have HTA : Hid (Str w5 (fun _ => True) (.slice aA nA cA) tA ∧ nA = tA.length ∧ nB = tB.length) := ⟨by
          have := (HA.out.1.turn (Turn.of_below HB.out.2 (F := fun _ => False)) (fun _ _ _ q => q))
          rw [← HX.out.2, ex, ← etA] at this
          exact this, by rw [etA]; exact enA2, by rw [etB]; exact enB2⟩
        have HTB : Hid (Str w5 (fun _ => True) (.slice aB nB cB) tB) := by
          have := HB.out.1
          rw [← HY.out.2, ey, ← etB] at this
          exact this
        have j0 : ¬ (nA : Int) = 0 := by omega
        have j1 : ¬ (nB : Int) = 0 := by omega
        have j0b : ((nA : Int) == 0) = false := by simpa using j0
        have j1b : ((nB : Int) == 0) = false := by simpa using j1
        have hA0 : 0 < nA := by omega
        have hB0 : 0 < nB := by omega
        clear hdx px mx lx ex hdy py my ly ey fpx fpy enA2 enB2 etA etB hK
        obtain ⟨aA', gA, cA', eA, hcA, vA, -⟩ := HTA.out.1.view
        rw [← HTA.out.2.1] at eA hcA
        injection eA with z1 _ z3
        subst z1
        subst z3
        obtain ⟨aB', gB, cB', eB, hcB, vB, -⟩ := HTB.out.view
        rw [← HTA.out.2.2] at eB hcB
        injection eB with z1 _ z3
        subst z1
        subst z3
        have HVA : Hid (Vw w5 aA gA 0 tA ∧ Vw w5 aB gB 0 tB) := ⟨vA, vB⟩
        have ja := slice_upto aA nA cA K (by omega)
        have lK : (tA.take K).length = K := by simp; have := HTA.out.2.1; omega
        have K1 := decode_any w5 aA gA 0 cA _ (take_view (K := K) vA (by have := HTA.out.2.1; omega)) (by rw [lK]; omega) (by rw [lK]; omega)
        rw [lK] at K1
        obtain ⟨dX, dP, dE⟩ := decXPE_bad HD1.out
        clear vA vB lK
        go_wp2_with fail
        refine K1.mono ?_
        rintro e w6 ⟨vb6, vi6, rfl, o6, b6⟩
        rw [dX] at o6
        rw [dX, dP, dE, show (It.mk false [] []).l = false from rfl]
        obtain ⟨f1, f2, f3, f4, f5, f6, rfl, rfl⟩ := o6.lies.form
        obtain ⟨w7, e7⟩ : ∃ w7, w7 = w6.alloc (.cells #[.bool false, .slice f1 f2 f3, .slice f4 f5 f6] 25) := ⟨_, rfl⟩
        have b7 : Below w5.heap.size w5 w7 := by rw [e7]; exact ch b6 (below_alloc _ _)
        have HB7 : Hid (Below w5.heap.size w5 w7 ∧ w7 = w6.alloc (.cells #[.bool false, .slice f1 f2 f3, .slice f4 f5 f6] 25)) := ⟨b7, e7⟩
        clear o6 b6 K1 dX dP dE b7 e7
        go_upto_region 15 with fail
        rw [← HB7.out.2]
        have own0 := World.ownsRow_lit (base := w7.heap.size) (e := 5) (size := 1) w7 #[] 0 (Nat.le_refl _) (by decide) rfl
        have HO0 : Hid ((w7.alloc (.cells #[] 5)).ownsRow w7.heap.size 5 1 (.slice (some ⟨w7.heap.size, 0, none⟩) 0 0) 0 []) := own0
        have HVA7 : Hid (∀ w', Below w7.heap.size w7 w' → View w' aA gA 0 nA (fun i => ((gd tA i : Nat) : Int)) ∧ View w' aB gB 0 nB (fun i => ((gd tB i : Nat) : Int))) := fun w' k => by
          have v1 := HVA.out.1.below (ch HB7.out.1 k)
          have v2 := HVA.out.2.below (ch HB7.out.1 k)
          rw [← HTA.out.2.1] at v1
          rw [← HTA.out.2.2] at v2
          exact ⟨v1, v2⟩
        have HNA : Hid ((aA = none → cA = 0) ∧ (aB = none → cB = 0)) := ⟨(fun h => by
          subst h
          have := HVA.out.1.at_ (by rw [← HTA.out.2.1]; exact hA0)
          cases this), (fun h => by
          subst h
          have := HVA.out.2.at_ (by rw [← HTA.out.2.2]; exact hB0)
          cases this)⟩
        clear own0
        go_wp2_with (refine wpList_append_bytes (by rfl) (.tmp 94) (.tmp 95) (by rfl) w7.heap.size _ 0 [] (by rfl) HO0.out aA gA 0 nA cA _ (by rfl) (HVA7.out _ (below_alloc _ _)).1 HNA.out.1 (by omega) (by simp) ?_)
        intro v8 w8 own8 gr8 nn8
        have b8 : Below w7.heap.size w7 w8 := (below_alloc _ _).trans (grown_below gr8 HO0.out (Nat.le_refl _) (by simp))
        have own8' : w8.ownsRow w7.heap.size 5 1 v8 nA (bv tA) := by rw [← vals_bv tA, ← HTA.out.2.1]; simpa using own8
        have HO8 : Hid (w8.ownsRow w7.heap.size 5 1 v8 nA (bv tA) ∧ Below w7.heap.size w7 w8) := ⟨own8', b8⟩
        clear own8 own8' gr8 nn8 b8
        go_wp2_with (refine wpList_append_bytes (by rfl) (.tmp 96) (.tmp 97) (by rfl) w7.heap.size v8 nA (bv tA) (by rfl) HO8.out.1 aB gB 0 nB cB _ (by rfl) (HVA7.out _ HO8.out.2).2 HNA.out.2 (by omega) HO8.out.2.size ?_)
        intro v9 w9 own9 gr9 nn9
        have b9 : Below w7.heap.size w7 w9 := HO8.out.2.trans (grown_below gr9 HO8.out.1 (Nat.le_refl _) HO8.out.2.size)
        have own9' : w9.ownsRow w7.heap.size 5 1 v9 (nA + nB) (bv (tA ++ tB)) := by rw [bv_app, ← vals_bv tB, ← HTA.out.2.2]; exact own9
        have okAB : ∀ z ∈ tA ++ tB, z < 256 := fun z hz => by
          rcases List.mem_append.1 hz with hz | hz
          · exact HTA.out.1.ok.2 z hz
          · exact HTB.out.ok.2 z hz
        have lAB : (tA ++ tB).length = nA + nB := by rw [List.length_append, ← HTA.out.2.1, ← HTA.out.2.2]
        have st9 := str_own own9' lAB.symm okAB (by omega)
        obtain ⟨aC, gC, cC, eC, hcC, vC, -⟩ := st9.view
        rw [lAB] at eC hcC
        subst eC
        have HO9 : Hid (Below w7.heap.size w7 w9 ∧ Vw w9 aC gC 0 (tA ++ tB) ∧ nA + nB ≤ cC ∧ (aC = none → cC = 0) ∧ (tA ++ tB).length = nA + nB ∧ ∀ z ∈ tA ++ tB, z < 256) := ⟨b9, vC, hcC, (fun h => by
          subst h
          have := vC.at_ (by rw [lAB]; omega)
          cases this), lAB, okAB⟩
        clear own9 own9' gr9 nn9 b9 okAB lAB st9 vC
        have own0 := World.ownsRow_lit (base := w9.heap.size) (e := 5) (size := 1) w9 #[] 0 (Nat.le_refl _) (by decide) rfl
        have HO1 : Hid ((w9.alloc (.cells #[] 5)).ownsRow w9.heap.size 5 1 (.slice (some ⟨w9.heap.size, 0, none⟩) 0 0) 0 []) := own0
        clear own0
        have HVC : Hid (View (w9.alloc (.cells #[] 5)) aC gC 0 (nA + nB) (fun i => ((gd (tA ++ tB) i : Nat) : Int))) := by
          have := HO9.out.2.1.below (below_alloc w9 (.cells #[] 5))
          rw [HO9.out.2.2.2.2.1] at this
          exact this
        go_wp2_with (refine wpList_append_bytes (by rfl) (.tmp 100) (.tmp 101) (by rfl) w9.heap.size _ 0 [] (by rfl) HO1.out aC gC 0 (nA + nB) cC _ (by rfl) HVC.out HO9.out.2.2.2.1 (by omega) (by simp) ?_)
        intro vD wD ownD grD nnD
        have bD : Below w9.heap.size w9 wD := (below_alloc _ _).trans (grown_below grD HO1.out (Nat.le_refl _) (by simp))
        have ownD' : wD.ownsRow w9.heap.size 5 1 vD (nA + nB) (bv (tA ++ tB)) := by rw [← vals_bv (tA ++ tB), HO9.out.2.2.2.2.1]; simpa using ownD
        have HOD : Hid (wD.ownsRow w9.heap.size 5 1 vD (nA + nB) (bv (tA ++ tB)) ∧ Below w9.heap.size w9 wD) := ⟨ownD', bD⟩
        have HVS : Hid (View wD aS gS oS n (fun i => ((gd s i : Nat) : Int))) := by
          have := HV.out.1.below (ch HB5.out (ch HB7.out.1 (ch HO9.out.1 bD)))
          rw [← HN.out] at this
          exact this
        clear ownD ownD' grD nnD bD
        go_wp2_with (refine wpList_append_bytes (by rfl) (.tmp 102) (.tmp 103) (by rfl) w9.heap.size vD (nA + nB) (bv (tA ++ tB)) (by rfl) HOD.out.1 aS gS oS n cS _ (by rfl) HVS.out HV.out.2.2.1 (by omega) HOD.out.2.size ?_)
        intro vE wE ownE grE nnE
        have bE : Below w9.heap.size w9 wE := HOD.out.2.trans (grown_below grE HOD.out.1 (Nat.le_refl _) HOD.out.2.size)
        have ownE' : wE.ownsRow w9.heap.size 5 1 vE (nA + nB + n) (bv (tA ++ (tB ++ s))) := by
          rw [← List.append_assoc, bv_app, ← vals_bv s, ← HN.out]
          exact ownE
        have lE : (tA ++ (tB ++ s)).length = nA + nB + n := by rw [List.length_append, List.length_append, ← HTA.out.2.1, ← HTA.out.2.2, ← HN.out]; omega
        have stE := str_own ownE' lE.symm (fun z hz => by
          rcases List.mem_append.1 hz with hz | hz
          · exact HTA.out.1.ok.2 z hz
          · rcases List.mem_append.1 hz with hz | hz
            · exact HTB.out.ok.2 z hz
            · exact (vw_ok HV.out.1).2 z hz) (by omega)
        obtain ⟨aE, gE, cE, eE, hcE, vE', -⟩ := stE.view
        rw [lE] at eE hcE
        subst eE
        have K2 := decode_any wE aE gE 0 cE _ vE' (by rw [lE]; exact hcE) (by rw [lE]; omega)
        rw [lE] at K2
        have dE := HD2.out (tB ++ s) (by rw [List.length_append, ← HTA.out.2.2, ← HN.out])
        obtain ⟨dX, dP, dE2⟩ := decXPE_bad dE
        have HBE : Hid (Below w9.heap.size w9 wE) := bE
        clear ownE ownE' grE nnE bE lE stE vE' hcE dE
        go_wp2_with fail
        refine K2.mono ?_
        rintro e wF ⟨vbF, viF, rfl, oF, bF⟩
        rw [dX] at oF
        rw [dX, dP, dE2]
        obtain ⟨f1', f2', f3', f4', f5', f6', rfl, rfl⟩ := oF.lies.form
        have HBF : Hid (Below w9.heap.size w9 wF) := ch HBE.out bF
        have K3 := split_any wF aC gC 0 cC _ (HO9.out.2.1.below HBF.out) (by rw [HO9.out.2.2.2.2.1]; exact HO9.out.2.2.1) (by rw [HO9.out.2.2.2.2.1]; omega)
        rw [HO9.out.2.2.2.2.1, HD3.out.1, HD3.out.2.1, HD3.out.2.2] at K3
        clear oF bF K2 dX dP dE2
        go_wp2_with fail
        refine K3.mono ?_
        rintro e wG ⟨vG1, vG2, rfl, tG⟩
        obtain ⟨h1, h2, h3, rfl, -, vH1, -⟩ := tG.fst.view
        obtain ⟨h4, h5, h6, rfl, -, vH2, -⟩ := tG.snd.view
        have bG := ch HBF.out tG.below
        have cv1 := convert_view vH1 h3
        have cv2 := convert_view vH2 h6
        have vA := (HVA7.out wG (ch HO9.out.1 bG))
        have cv3 := convert_view vA.1 cA
        have cv4 := convert_view vA.2 cB
        rw [← HTA.out.2.1] at cv1 ⊢
        rw [← HTA.out.2.2] at cv2 ⊢
        generalize str nA (fun i => ((gd tA i : Nat) : Int)) = SA at cv1 cv3
        generalize str nB (fun i => ((gd tB i : Nat) : Int)) = SB at cv2 cv4
        have HZ : Hid (Below w.heap.size w wG) := ch (ch HB5.out HB7.out.1) (ch HO9.out.1 bG)
        clear tG vH1 vH2 bG vA K3
        go_wp2_with fail
        go_ret
        exact ⟨rfl, HZ.out⟩
    · have i1 : ¬ (EY : Int) = 0 := by omega
      by_cases hA0 : nA = 0
      · subst hA0
        go_wp2_with fail
        go_ret
        exact ⟨rfl, HB5.out⟩
      · have i2 : ¬ (nA : Int) = 0 := by omega
        go_wp2_with fail
        go_ret
        exact ⟨rfl, HB5.out⟩
  · have i1 : ¬ (EX : Int) = 0 := by omega
    have z := HZ0.out hEX
    subst z
    go_wp2_with fail
    go_ret
    exact ⟨rfl, HB5.out⟩
end Go.Proofs.Ytlpmcdnhnhgmpaa
