import Derived.Test.YtledfigfokoiiaaKnq
/-
  ProofRound: the law, walked.
-/
namespace Go.Proofs.Ytledfigfokoiiaa
open Go.RowKit
theorem uf_two {s : List Nat} (hs : ∀ x ∈ s, x < 256) : (ufE s = 0 ∧ pfE (uf s) = 0 ∧ pf (uf s) = s ∧ (uf s).length ≤ 131072) ∨ (ufE s = 160 ∧ uf s = []) := by
  rcases uf_cases s with ⟨h, _⟩ | h
  · exact Or.inl ⟨h, (uf_pf hs h).1, (uf_pf hs h).2, uf_cnt hs⟩
  · exact Or.inr h
/-- a copy of bytes -/
theorem vb_own {w : World} {B : Nat} {v : Value} {s : List Nat} (h : w.ownsRow B 5 1 v s.length (vals (fun i => ((gd s i : Nat) : Int)) s.length)) (hs : ∀ x ∈ s, x < 256) (hl : s.length ≤ 140737488351232) : Vb w v s := by
  rw [vals_bv] at h
  exact vb_of_own h rfl hs hl
set_option maxRecDepth 100000 in
set_option maxHeartbeats 3200000 in
theorem round_any (w : World) (v vs : Value) (L : List (List Nat)) (s : List Nat) (h : Lv w v L) (hs : Vb w vs s) :
    Calls Try.prog 3 #[v, vs] w fun e w' => e = .returned (.bool true) ∧ Below w.heap.size w w' := by
  have KN := num_any
  have K1 := packs_any w v L h
  obtain ⟨a, c, rfl⟩ := h.form
  obtain ⟨aS, gS, oS, cS, rfl, vS, hcS, hnS, hlS⟩ := hs
  have HUF : Hid ((ufE s = 0 ∧ pfE (uf s) = 0 ∧ pf (uf s) = s ∧ (uf s).length ≤ 131072) ∨ (ufE s = 160 ∧ uf s = [])) := uf_two (vw_ok vS).2
  obtain ⟨nS, eS⟩ : ∃ nS, nS = s.length := ⟨_, rfl⟩
  have HR : Hid (Vb w (.slice aS nS cS) s) := ⟨aS, gS, oS, cS, by rw [eS], vS, hcS, hnS, hlS⟩
  have HSL : Hid (s.length = nS ∧ nS ≤ 140737488351232) := ⟨eS.symm, by omega⟩
  rw [← eS] at hcS hlS ⊢
  have HL : Hid (Lv w (.slice a L.length c) L) := h
  obtain ⟨n, en⟩ : ∃ n, n = L.length := ⟨_, rfl⟩
  have HN : Hid (n = L.length) := en
  rw [← en] at K1 HL ⊢
  unfold PkPost at K1
  clear h vS eS en
  rcases pf_cases L with ⟨p0, p1, p2, p3⟩ | ⟨p0, p1⟩
  · have HPF : Hid (ufE (pf L) = 0 ∧ uf (pf L) = L ∧ (pf L).length ≤ 131072) := ⟨(pf_uf p0).1, (pf_uf p0).2, by rw [p3]; exact p2⟩
    rw [p0] at K1
    obtain ⟨t, et⟩ : ∃ t, t = pf L := ⟨_, rfl⟩
    rw [← et] at K1 HPF
    clear et p0 p1 p2 p3
    go_enter Try.func3, Try.ntmps3
    go_wp2_with fail
    refine K1.mono ?_
    rintro e w1 ⟨u1, rfl, s1, b1⟩
    have hv1 := s1.vb (by have := HPF.out.2.2; omega)
    obtain ⟨a1, g1, o1, c1, rfl, vw1, hc1, hn1, hl1⟩ := hv1
    have HB1 : Hid (Below w.heap.size w w1) := b1
    have hsb := (vw_ok vw1).2
    have own0 := World.ownsRow_lit (base := w1.heap.size) (e := 5) (size := 1) w1 #[] 0 (Nat.le_refl _) (by decide) rfl
    have HV0 : Hid (View (w1.alloc (.cells #[] 5)) a1 g1 o1 t.length (fun i => ((gd t i : Nat) : Int)) ∧ (a1 = none → c1 = 0)) := ⟨vw1.below (below_alloc _ _), hn1⟩
    have HT : Hid ((∀ x ∈ t, x < 256) ∧ t.length ≤ 131072) := ⟨hsb, HPF.out.2.2⟩
    obtain ⟨m, em⟩ : ∃ m, m = t.length := ⟨_, rfl⟩
    have HM : Hid (m = t.length) := em
    have hm : m ≤ 131072 := by have := HPF.out.2.2; omega
    rw [← em] at HV0 ⊢
    clear s1 b1 vw1 hsb em hn1 hc1 hl1 K1
    go_wp2_with (first
      | (go_at_call 7; refine (KN _ _).mono ?_; rintro e w' ⟨rfl, hw'⟩; subst w')
      | (refine wpList_append_bytes (by rfl) (.tmp 22) (.tmp 23) (by rfl) w1.heap.size _ 0 [] (by rfl) own0 a1 g1 o1 m c1 _ (by rfl) HV0.out.1 HV0.out.2 (by omega) (by simp) ?_))
    intro v2 w2 own2 gr2 nn2
    have b2 : Below w1.heap.size w1 w2 := (below_alloc _ _).trans (grown_below gr2 own0 (Nat.le_refl _) (by simp))
    replace own2 : w2.ownsRow w1.heap.size 5 1 v2 m (vals (fun i => ((gd t i : Nat) : Int)) m) := by simpa using own2
    have vb2 : Vb w2 v2 t := vb_own (by rw [← HM.out]; exact own2) HT.out.1 (by have := HT.out.2; omega)
    obtain ⟨a2, c2, e2⟩ := own_slice own2
    subst e2
    have HB2 : Hid (Below w.heap.size w w2) := ch HB1.out b2
    have K3 := unpack_any w2 _ _ vb2
    unfold UnPost at K3
    rw [HPF.out.1, HPF.out.2.1] at K3
    have hLl : L.length ≤ 8796093022208 := by
      obtain ⟨_, _, _, _, _, _, _, _, _, _, _, h6⟩ := HL.out
      exact h6
    have HLl : Hid (L.length ≤ 8796093022208) := hLl
    clear own0 gr2 nn2 HV0 own2 vb2 b2 hLl
    go_wp2_with fail
    refine K3.mono ?_
    rintro e w3 ⟨u3, Us3, rfl, g3, b3⟩
    obtain ⟨a3, c3, e3⟩ := own_slice g3.own
    subst e3
    have HB3 : Hid (Below w.heap.size w w3) := ch HB2.out b3
    have K4 := same_yes (g3.lv HLl.out) (HL.out.keep HB3.out)
    rw [← HN.out] at K4 ⊢
    clear g3 b3 K3
    go_wp2_with (first
      | (go_at_call 7; refine (KN _ _).mono ?_; rintro e w' ⟨rfl, hw'⟩; subst w')
      | (go_at_call 9; refine K4.mono ?_; rintro e w4 ⟨rfl, b4⟩; have BX : Hid (Below w.heap.size w w4) := ch HB3.out b4; clear b4)
      | (go_at_call 8; skip; fail))
    have K5 := unpack_any w4 _ _ (HR.out.keep BX.out)
    have KK := known_any
    unfold UnPost at K5
    rcases HUF.out with ⟨f0, f1, f2⟩ | ⟨f0, f1⟩
    · rw [f0] at K5
      have HF : Hid (pfE (uf s) = 0 ∧ pf (uf s) = s ∧ (uf s).length ≤ 131072) := ⟨f1, f2⟩
      obtain ⟨L2, eL2⟩ : ∃ L2, L2 = uf s := ⟨_, rfl⟩
      rw [← eL2] at K5 HF
      clear eL2 f0 f1 f2
      go_wp2_with fail
      refine K5.mono ?_
      rintro e w5 ⟨u5, Us5, rfl, g5, b5⟩
      obtain ⟨a5, c5, e5⟩ := own_slice g5.own
      subst e5
      have K6 := packs_any w5 _ _ (g5.lv (by have := HF.out.2.2; omega))
      unfold PkPost at K6
      rw [HF.out.1, HF.out.2.1] at K6
      have HB5 : Hid (Below w4.heap.size w4 w5) := b5
      generalize L2.length = n5 at K6 ⊢
      clear g5 b5 K5
      go_wp2_with (first
        | (go_at_call 7; refine (KN _ _).mono ?_; rintro e w' ⟨rfl, hw'⟩; subst w'))
      refine K6.mono ?_
      rintro e w6 ⟨u6, rfl, s6, b6⟩
      obtain ⟨a6, c6, e6⟩ := own_slice s6.own
      subst e6
      have HB6 : Hid (Below w.heap.size w w6) := ch BX.out (ch HB5.out b6)
      have cA := (conv_vb (s6.vb (by have := HSL.out; omega))).2 w6 (Below.refl _ _)
      have cB := (conv_vb HR.out).2 w6 HB6.out
      rw [HSL.out.1] at cA ⊢
      clear s6 b6 K6
      generalize sB s = S at cA cB
      go_wp2_with (first
        | (go_at_call 7; refine (KN _ _).mono ?_; rintro e w' ⟨rfl, hw'⟩; subst w')
        | (go_at_call 10; refine (KK _).mono ?_; rintro e w7 ⟨rfl, b7⟩; have HB7 : Hid (Below w.heap.size w w7) := ch HB6.out b7; clear b7))
      go_ret
      exact ⟨rfl, HB7.out⟩
    · rw [f0, f1] at K5
      clear f0 f1
      go_wp2_with fail
      refine K5.mono ?_
      rintro e w5 ⟨u5, Us5, rfl, g5, b5⟩
      obtain ⟨a5, c5, e5⟩ := own_slice g5.own
      subst e5
      have HB6 : Hid (Below w.heap.size w w5) := ch BX.out b5
      rw [show ([] : List (List Nat)).length = 0 from rfl]
      clear g5 b5 K5
      go_wp2_with (first
        | (go_at_call 7; refine (KN _ _).mono ?_; rintro e w' ⟨rfl, hw'⟩; subst w')
        | (go_at_call 10; refine (KK _).mono ?_; rintro e w7 ⟨rfl, b7⟩; have HB7 : Hid (Below w.heap.size w w7) := ch HB6.out b7; clear b7))
      go_ret
      exact ⟨rfl, HB7.out⟩
  · rw [p0, p1] at K1
    clear p0 p1
    go_enter Try.func3, Try.ntmps3
    go_wp2_with fail
    refine K1.mono ?_
    rintro e w1 ⟨u1, rfl, s1, b1⟩
    obtain ⟨a1, c1, e1⟩ := own_slice s1.own
    subst e1
    have BX : Hid (Below w.heap.size w w1) := b1
    rw [show ([] : List Nat).length = 0 from rfl]
    clear s1 b1 K1
    go_wp2_with (first
      | (go_at_call 7; refine (KN _ _).mono ?_; rintro e w' ⟨rfl, hw'⟩; subst w')
      | (go_at_call 8; skip; fail))
    have K5 := unpack_any w1 _ _ (HR.out.keep BX.out)
    have KK := known_any
    unfold UnPost at K5
    rcases HUF.out with ⟨f0, f1, f2⟩ | ⟨f0, f1⟩
    · rw [f0] at K5
      have HF : Hid (pfE (uf s) = 0 ∧ pf (uf s) = s ∧ (uf s).length ≤ 131072) := ⟨f1, f2⟩
      obtain ⟨L2, eL2⟩ : ∃ L2, L2 = uf s := ⟨_, rfl⟩
      rw [← eL2] at K5 HF
      clear eL2 f0 f1 f2
      go_wp2_with fail
      refine K5.mono ?_
      rintro e w5 ⟨u5, Us5, rfl, g5, b5⟩
      obtain ⟨a5, c5, e5⟩ := own_slice g5.own
      subst e5
      have K6 := packs_any w5 _ _ (g5.lv (by have := HF.out.2.2; omega))
      unfold PkPost at K6
      rw [HF.out.1, HF.out.2.1] at K6
      have HB5 : Hid (Below w1.heap.size w1 w5) := b5
      generalize L2.length = n5 at K6 ⊢
      clear g5 b5 K5
      go_wp2_with (first
        | (go_at_call 7; refine (KN _ _).mono ?_; rintro e w' ⟨rfl, hw'⟩; subst w'))
      refine K6.mono ?_
      rintro e w6 ⟨u6, rfl, s6, b6⟩
      obtain ⟨a6, c6, e6⟩ := own_slice s6.own
      subst e6
      have HB6 : Hid (Below w.heap.size w w6) := ch BX.out (ch HB5.out b6)
      have cA := (conv_vb (s6.vb (by have := HSL.out; omega))).2 w6 (Below.refl _ _)
      have cB := (conv_vb HR.out).2 w6 HB6.out
      rw [HSL.out.1] at cA ⊢
      clear s6 b6 K6
      generalize sB s = S at cA cB
      go_wp2_with (first
        | (go_at_call 7; refine (KN _ _).mono ?_; rintro e w' ⟨rfl, hw'⟩; subst w')
        | (go_at_call 10; refine (KK _).mono ?_; rintro e w7 ⟨rfl, b7⟩; have HB7 : Hid (Below w.heap.size w w7) := ch HB6.out b7; clear b7))
      go_ret
      exact ⟨rfl, HB7.out⟩
    · rw [f0, f1] at K5
      clear f0 f1
      go_wp2_with fail
      refine K5.mono ?_
      rintro e w5 ⟨u5, Us5, rfl, g5, b5⟩
      obtain ⟨a5, c5, e5⟩ := own_slice g5.own
      subst e5
      have HB6 : Hid (Below w.heap.size w w5) := ch BX.out b5
      rw [show ([] : List (List Nat)).length = 0 from rfl]
      clear g5 b5 K5
      go_wp2_with (first
        | (go_at_call 7; refine (KN _ _).mono ?_; rintro e w' ⟨rfl, hw'⟩; subst w')
        | (go_at_call 10; refine (KK _).mono ?_; rintro e w7 ⟨rfl, b7⟩; have HB7 : Hid (Below w.heap.size w w7) := ch HB6.out b7; clear b7))
      go_ret
      exact ⟨rfl, HB7.out⟩
end Go.Proofs.Ytledfigfokoiiaa
