import Derived.Test.YtcnhinnpieehoaaGreatDoorRtzz
import Derived.Test.YtcnhinnpieehoaaGreatDoorJyzz
namespace Go.Proofs.YtcnhinnpieehoaaGreatDoor
open Go Go.Ev Go.Sy
set_option maxRecDepth 100000
variable {s s0 : St} {p γ δ n c m N d : Nat} {q : Option Addr} {A D F : List Nat} {L cs : List Value}
theorem bequal_ok {r : Option Addr} {e : Nat} (h1 : At s q (A.map nB)) (h2 : At s r (D.map nB)) : Cl B (.call 47 [.slice q A.length c, .slice r D.length e]) s fun v s' => (∃ g : Bool, v = .bool g) ∧ s' = s := by
 refine Cl.enter Tryz.f47 fn47 rfl rfl rfl ?_
 have hA : Bs s q A := h1
 have hD : Bs s r D := h2
 refine run1 ?_
 refine Wo.val rfl (Xv.b2s rfl rfl rfl rfl hA) rfl (run1 ?_)
 refine Wo.val rfl (Xv.b2s rfl rfl rfl rfl hD) rfl (run1 ?_)
 refine Wo.val rfl (Xv.seq rfl rfl) rfl (run1 ?_)
 exact Lv.ret rfl ⟨⟨_, rfl⟩, rfl⟩
theorem rc_one {k c q : Int} {P R : List Nat} {y : Option Addr} {n m : Nat} : ∀ v ∈ rcV k c q P R (.slice y n m), one v = true := fun v hv => by
 unfold rcV at hv
 rcases List.mem_cons.1 hv with rfl | hv
 ·rfl
 rcases List.mem_cons.1 hv with rfl | hv
 ·rfl
 rcases List.mem_cons.1 hv with rfl | hv
 ·rfl
 rcases List.mem_append.1 hv with hv | hv
 ·exact one_nB v hv
 rcases List.mem_append.1 hv with hv | hv
 ·exact one_nB v hv
 ·rw [List.mem_singleton.1 hv]; rfl
theorem eqV_im (h : Im s d cs) : eqV 5 (.agg ⟨cs⟩) (.agg ⟨cs⟩) = true := by
 obtain ⟨g, q, n, c, q', n', c', rfl⟩ := h.cells
 refine eqV_agg fun v hv => ?_
 simp only [List.mem_cons, List.not_mem_nil, or_false] at hv
 rcases hv with rfl | rfl | rfl
 ·cases g <;> rfl
 ·exact eqV4
 ·exact eqV4
theorem cellsL_int {k : IntKind} {z : Int} : cellsL (.int k z) = some [.int k z] := by
 show fV (.int k z) (fun v => some [v]) = _
 exact fV_eq _ _
theorem cellsL_sl {q : Option Addr} {n c : Nat} : cellsL (.slice q n c) = some [.slice q n c] := by
 show fV (.slice q n c) (fun v => some [v]) = _
 exact fV_eq _ _
theorem one1 {v : Value} (h : one v = true) : ∀ u ∈ [v], one u = true := fun u hu => by rw [List.mem_singleton.1 hu]; exact h
theorem rc_set3 {a b c : Int} {P R Z : List Nat} {x : Value} (h : P.length = Z.length) : lov (rcV a b c Z R x) 3 (P.map nB) = rcV a b c P R x := lov_app (a := [I a, I b, I c]) rfl (by rw [List.length_map, List.length_map, h])
theorem rc_set35 {a b c : Int} {P R Z : List Nat} {x : Value} (hP : P.length = 32) (h : R.length = Z.length) : lov (rcV a b c P Z x) 35 (R.map nB) = rcV a b c P R x := lov_app (a := I a :: I b :: I c :: P.map nB) (by simp [hP]) (by rw [List.length_map, List.length_map, h])
theorem rc_set67 {a b c : Int} {P R : List Nat} {x y : Value} (hP : P.length = 32) (hR : R.length = 32) : lov (rcV a b c P R x) 67 [y] = rcV a b c P R y := by
 have e : ∀ z : Value, rcV a b c P R z = (I a :: I b :: I c :: (P.map nB ++ R.map nB)) ++ ([z] ++ []) := fun z => by simp [rcV]
 rw [e, e]
 exact lov_app (by simp [hP, hR]) rfl
theorem rc_eqV {k c q : Int} {P R : List Nat} {y : Option Addr} {n m : Nat} : ∀ v ∈ rcV k c q P R (.slice y n m), eqV 4 v v = true := fun v hv => by
 unfold rcV at hv
 rcases List.mem_cons.1 hv with rfl | hv
 ·exact eqV4i
 rcases List.mem_cons.1 hv with rfl | hv
 ·exact eqV4i
 rcases List.mem_cons.1 hv with rfl | hv
 ·exact eqV4i
 rcases List.mem_append.1 hv with hv | hv
 ·exact eqV_b v hv
 rcases List.mem_append.1 hv with hv | hv
 ·exact eqV_b v hv
 ·rw [List.mem_singleton.1 hv]; exact eqV4
abbrev rc0 : List Value := rcV 0 0 0 (List.replicate 32 0) (List.replicate 32 0) (.slice none 0 0)
set_option maxHeartbeats 1600000 in
theorem recordOf_ok {b o : Nat} {l : List Nat} (w0 : Wf s) (hT : TabAt s) (h : At s (some ⟨b, o, none⟩) (l.map nB)) (hb : ∀ x ∈ l, x < 256) (hc : Rm c l.length 1) (hl : l.length ≤ 1048576) :
  Cl B (.call 22 [.slice (some ⟨b, o, none⟩) l.length c]) s fun v s' => Kn s s' ∧ (v = .tuple ⟨[.agg ⟨rc0⟩, .bool false]⟩ ∨ ∃ cs, v = .tuple ⟨[.agg ⟨cs⟩, .bool true]⟩ ∧ cs.length = 68 ∧ (∀ v ∈ cs, one v = true) ∧ ∀ v ∈ cs, eqV 4 v v = true) := by
 refine Cl.enter Tryz.f22 fn22 rfl rfl rfl ?_
 refine run1 ?_
 refine mkO (cs := rc0) fun s1 r1 n1 k1 => ?_
 have w1 : Wf s1 := k1.wf w0
 obtain ⟨b2, hb2⟩ : ∃ b, b = s.nx := ⟨_, rfl⟩
 rw [← hb2] at r1 ⊢
 refine Wo.call rfl (Xc.call ok43 rfl) rfl ((decode_ok w1 (h.kn w0 k1) hb hc hl).mono ?_)
 rintro v s2 ⟨k2, hv⟩
 have w2 := k2.wf w1
 have k02 : Kn s s2 := k1.call k2
 have e2 := k2.le
 rcases hv with ⟨cs, rfl, hI⟩ | ⟨pl, e, rfl, he⟩
 ·have hI3 := hI.len
  refine run1 ?_
  refine mkO (cs := z3) fun s3 r3 n3 k3 => ?_
  have w3 := k3.wf w2
  refine Wo.st rfl rfl rfl rfl rfl rfl hI3.1 hI3.2 r3 (by decide) fun s4 r4 n4 k4 => ?_
  rw [lov_all (by rw [hI3.1]; rfl)] at r4
  have w4 := k4.wf w3
  have K24 : Kn s2 s4 := k3.app k4 (Nat.le_refl _)
  obtain ⟨b4, hb4⟩ : ∃ b, b = s2.nx := ⟨_, rfl⟩
  rw [← hb4] at r4 ⊢
  have g4 : good (some ⟨b4, 0, none⟩) := good_b
  have h00 : ¬ (0 : Nat) ≠ 0 := fun h => h rfl
  rcases hI with ⟨q', c', b', rfl, _⟩ | ⟨qi, ci, css, rfl, ha, hcl, hcs⟩
  ·have l2 : ldq s4 (qadd (some ⟨b4, 0, none⟩) 2) = some (.slice none 0 0) := r4.f1 rfl
   have h06 : (0 : Nat) ≠ 6 := by decide
   refine run1 ?_
   refine Wo.st (vs := rc0) rfl rfl rfl rfl rfl rfl rfl rc_one ((r1.kp w1 k2 id).kp w2 K24 id) (by decide) fun tz pz mz gz => ?_
   rw [lov_all rfl] at pz
   refine run1 ?_
   have hcl := cell_at (B := B) (t := 26) rfl rfl pz rfl rfl
   refine Lv.ret (vs := [.agg ⟨rc0⟩, .bool false]) ?_ ⟨(k02.call K24).app gz (by omega), .inl rfl⟩
   show (match cell1 B.P (.pointer (some ⟨b2, 0, none⟩)) 26 tz, some [Value.bool false] with | some v, some vs => some (v :: vs) | _, _ => none) = _
   rw [hcl]
  ·have l2 : ldq s4 (qadd (some ⟨b4, 0, none⟩) 2) = some (.slice qi css.length ci) := r4.f1 rfl
   by_cases h6 : css.length ≠ 6
   ·refine run1 ?_
    refine Wo.st (vs := rc0) rfl rfl rfl rfl rfl rfl rfl rc_one ((r1.kp w1 k2 id).kp w2 K24 id) (by decide) fun tz pz mz gz => ?_
    rw [lov_all rfl] at pz
    refine run1 ?_
    have hcl := cell_at (B := B) (t := 26) rfl rfl pz rfl rfl
    refine Lv.ret (vs := [.agg ⟨rc0⟩, .bool false]) ?_ ⟨(k02.call K24).app gz (by omega), .inl rfl⟩
    show (match cell1 B.P (.pointer (some ⟨b2, 0, none⟩)) 26 tz, some [Value.bool false] with | some v, some vs => some (v :: vs) | _, _ => none) = _
    rw [hcl]
   ·obtain ⟨x0, x1, x2, x3, x4, x5, rfl⟩ : ∃ x0 x1 x2 x3 x4 x5, css = [x0, x1, x2, x3, x4, x5] := by
     match css, Decidable.not_not.1 h6 with
     | [a, b, c, d, e, f], _ => exact ⟨a, b, c, d, e, f, rfl⟩
    have gi : good qi := (kid (i := 0) ha (fun x hx => (hcs x hx).1) rfl).1
    have L2 : ∀ {t : St}, Kn s4 t → ldq t (qadd (some ⟨b4, 0, none⟩) 2) = some (.slice qi 6 ci) := fun k => (r4.kp w4 k id).f1 rfl
    have LX : ∀ {t : St} {i : Nat} {x : List Value}, Kn s4 t → [x0, x1, x2, x3, x4, x5][i]? = some x → ldn t (qadd qi (i * 3)) 3 = some x := fun k hx => (kid (ha.kn w2 (K24.call k)) (fun x hx => (hcs x hx).1) hx).2
    refine run1 ?_
    have i40 := eqV_im (hcs x0 (by simp)).2
    have i41 := eqV_im (hcs x1 (by simp)).2
    have i42 := eqV_im (hcs x2 (by simp)).2
    have i43 := eqV_im (hcs x3 (by simp)).2
    have i44 := eqV_im (hcs x4 (by simp)).2
    have i45 := eqV_im (hcs x5 (by simp)).2
    have a0 := L2 .refl
    have b0_0 := LX (i := 0) .refl rfl
    have b1_0 := LX (i := 1) .refl rfl
    have b2_0 := LX (i := 2) .refl rfl
    have b3_0 := LX (i := 3) .refl rfl
    have b4_0 := LX (i := 4) .refl rfl
    have b5_0 := LX (i := 5) .refl rfl
    refine W.dr [(0, .none, 0), (1, .reads, 1), (2, .none, 3), (3, .reads, 7), (4, .acts, 15), (5, .none, 0), (6, .reads, 32), (7, .none, 96), (8, .reads, 224), (9, .acts, 511), (10, .none, 0), (11, .reads, 1024), (12, .none, 3072), (13, .reads, 7168), (14, .acts, 16383), (15, .none, 0), (16, .reads, 32768), (17, .none, 98304), (18, .reads, 229376), (19, .acts, 524287), (20, .none, 0), (21, .reads, 1048576), (22, .none, 3145728), (23, .reads, 7340032), (24, .acts, 16777215), (25, .none, 0), (26, .reads, 33554432), (27, .none, 100663296), (28, .reads, 234881024), (29, .acts, 536870911), (30, .none, 1073741823), (31, .makes, 0), (32, .acts, 4294967295)] (by kernel_rfl) rfl (run1 ?_)
    have K0 : Kn s4 s4 := .refl
    refine Wd.read rfl (Xv.ldN rfl rfl rfl b0_0) rfl i40 ⟨Xv.ldN rfl rfl rfl b0_0, trivial⟩ (run1 ?_)
    refine Wd.call rfl (Xc.call ok44 rfl) rfl ((jnum_ok (d := 79) w4 ((hcs x0 (by simp)).2.kn w2 (K24.call K0))).mono ?_)
    rintro v s5 ⟨m0, rfl, hm0, k5⟩
    have w5 := k5.wf w4
    have K1 : Kn s4 s5 := K0.call k5
    have a1 := L2 K1
    have b1_1 := LX (i := 1) K1 rfl
    have b2_1 := LX (i := 2) K1 rfl
    have b3_1 := LX (i := 3) K1 rfl
    have b4_1 := LX (i := 4) K1 rfl
    have b5_1 := LX (i := 5) K1 rfl
    refine ⟨k5.le, run1 ?_⟩
    refine Wd.read rfl (Xv.ldN rfl rfl rfl b1_1) rfl i41 ⟨Xv.ldN rfl rfl rfl b1_1, ⟨Xv.ldN rfl rfl rfl b1_0, trivial⟩⟩ (run1 ?_)
    refine Wd.call rfl (Xc.call ok44 rfl) rfl ((jnum_ok (d := 79) w5 ((hcs x1 (by simp)).2.kn w2 (K24.call K1))).mono ?_)
    rintro v s6 ⟨m1, rfl, hm1, k6⟩
    have w6 := k6.wf w5
    have K2 : Kn s4 s6 := K1.call k6
    have a2 := L2 K2
    have b2_2 := LX (i := 2) K2 rfl
    have b3_2 := LX (i := 3) K2 rfl
    have b4_2 := LX (i := 4) K2 rfl
    have b5_2 := LX (i := 5) K2 rfl
    refine ⟨k6.le, run1 ?_⟩
    refine Wd.read rfl (Xv.ldN rfl rfl rfl b2_2) rfl i42 ⟨Xv.ldN rfl rfl rfl b2_2, ⟨Xv.ldN rfl rfl rfl b2_1, ⟨Xv.ldN rfl rfl rfl b2_0, trivial⟩⟩⟩ (run1 ?_)
    refine Wd.call rfl (Xc.call ok44 rfl) rfl ((jnum_ok (d := 79) w6 ((hcs x2 (by simp)).2.kn w2 (K24.call K2))).mono ?_)
    rintro v s7 ⟨m2, rfl, hm2, k7⟩
    have w7 := k7.wf w6
    have K3 : Kn s4 s7 := K2.call k7
    have a3 := L2 K3
    have b3_3 := LX (i := 3) K3 rfl
    have b4_3 := LX (i := 4) K3 rfl
    have b5_3 := LX (i := 5) K3 rfl
    refine ⟨k7.le, run1 ?_⟩
    refine Wd.read rfl (Xv.ld rfl rfl rfl a3) rfl eqV_slice ⟨Xv.ld rfl rfl rfl a3, ⟨Xv.ld rfl rfl rfl a2, ⟨Xv.ld rfl rfl rfl a1, ⟨Xv.ld rfl rfl rfl a0, trivial⟩⟩⟩⟩ (run1 ?_)
    refine Wd.read rfl (Xv.ldN rfl rfl rfl b3_3) rfl i43 ⟨Xv.ldN rfl rfl rfl b3_3, ⟨Xv.ldN rfl rfl rfl b3_2, ⟨Xv.ldN rfl rfl rfl b3_1, ⟨Xv.ldN rfl rfl rfl b3_0, trivial⟩⟩⟩⟩ (run1 ?_)
    refine Wd.call rfl (Xc.call ok45 rfl) rfl ((hashOf_ok (d := 79) w7 ((hcs x3 (by simp)).2.kn w2 (K24.call K3))).mono ?_)
    rintro v s8 ⟨P, rfl, hP, hPb, k8⟩
    have w8 := k8.wf w7
    have K4 : Kn s4 s8 := K3.call k8
    have a4 := L2 K4
    have b4_4 := LX (i := 4) K4 rfl
    have b5_4 := LX (i := 5) K4 rfl
    refine ⟨k8.le, run1 ?_⟩
    refine Wd.read rfl (Xv.ld rfl rfl rfl a4) rfl eqV_slice ⟨Xv.ld rfl rfl rfl a4, ⟨Xv.ld rfl rfl rfl a3, ⟨Xv.ld rfl rfl rfl a2, ⟨Xv.ld rfl rfl rfl a1, ⟨Xv.ld rfl rfl rfl a0, trivial⟩⟩⟩⟩⟩ (run1 ?_)
    refine Wd.read rfl (Xv.ldN rfl rfl rfl b4_4) rfl i44 ⟨Xv.ldN rfl rfl rfl b4_4, ⟨Xv.ldN rfl rfl rfl b4_3, ⟨Xv.ldN rfl rfl rfl b4_2, ⟨Xv.ldN rfl rfl rfl b4_1, ⟨Xv.ldN rfl rfl rfl b4_0, trivial⟩⟩⟩⟩⟩ (run1 ?_)
    refine Wd.call rfl (Xc.call ok45 rfl) rfl ((hashOf_ok (d := 79) w8 ((hcs x4 (by simp)).2.kn w2 (K24.call K4))).mono ?_)
    rintro v s9 ⟨R, rfl, hR, hRb, k9⟩
    have w9 := k9.wf w8
    have K5 : Kn s4 s9 := K4.call k9
    have a5 := L2 K5
    have b5_5 := LX (i := 5) K5 rfl
    refine ⟨k9.le, run1 ?_⟩
    refine Wd.read rfl (Xv.ld rfl rfl rfl a5) rfl eqV_slice ⟨Xv.ld rfl rfl rfl a5, ⟨Xv.ld rfl rfl rfl a4, ⟨Xv.ld rfl rfl rfl a3, ⟨Xv.ld rfl rfl rfl a2, ⟨Xv.ld rfl rfl rfl a1, ⟨Xv.ld rfl rfl rfl a0, trivial⟩⟩⟩⟩⟩⟩ (run1 ?_)
    refine Wd.read rfl (Xv.ldN rfl rfl rfl b5_5) rfl i45 ⟨Xv.ldN rfl rfl rfl b5_5, ⟨Xv.ldN rfl rfl rfl b5_4, ⟨Xv.ldN rfl rfl rfl b5_3, ⟨Xv.ldN rfl rfl rfl b5_2, ⟨Xv.ldN rfl rfl rfl b5_1, ⟨Xv.ldN rfl rfl rfl b5_0, trivial⟩⟩⟩⟩⟩⟩ (run1 ?_)
    refine Wd.call rfl (Xc.call ok46 rfl) rfl ((changesOf_ok (d := 77) w9 ((hcs x5 (by simp)).2.kn w2 (K24.call K5))).mono ?_)
    rintro v sa ⟨Q, xs, C, rfl, hrc, ka⟩
    have wa := ka.wf w9
    have K6 : Kn s4 sa := K5.call ka
    refine ⟨ka.le, run1 ?_⟩
    refine Wd.val rfl (Xv.buildE (cs := rcV (m0 : Int) (m1 : Int) (m2 : Int) P R (.slice Q xs.length C)) rfl ?_) rfl (Nat.le_refl _) ?_
    ·refine fill_cons (vs := [nI m0]) rfl rfl cellsL_int rfl (one1 rfl) (by decide) ?_
     refine fill_cons (vs := [nI m1]) rfl rfl cellsL_int rfl (one1 rfl) (show 1 + 1 ≤ 68 by decide) ?_
     refine fill_cons (vs := [nI m2]) rfl rfl cellsL_int rfl (one1 rfl) (show 2 + 1 ≤ 68 by decide) ?_
     have e0 : lov (lov (lov rc0 0 [nI m0]) 1 [nI m1]) 2 [nI m2] = rcV (m0 : Int) (m1 : Int) (m2 : Int) (List.replicate 32 0) (List.replicate 32 0) (.slice none 0 0) := rfl
     refine fill_cons (vs := P.map nB) rfl rfl rfl (by rw [List.length_map, hP]) one_nB (show 3 + 32 ≤ 68 by decide) ?_
     show fillE _ _ _ (lov (rcV (m0 : Int) (m1 : Int) (m2 : Int) (List.replicate 32 0) (List.replicate 32 0) (.slice none 0 0)) 3 (P.map nB)) = _
     rw [rc_set3 (by rw [hP]; rfl)]
     refine fill_cons (vs := R.map nB) rfl rfl rfl (by rw [List.length_map, hR]) one_nB (by rw [rc_len hP rfl]; decide) ?_
     show fillE _ _ _ (lov (rcV (m0 : Int) (m1 : Int) (m2 : Int) P (List.replicate 32 0) (.slice none 0 0)) 35 (R.map nB)) = _
     rw [rc_set35 hP (by rw [hR]; rfl)]
     refine fill_cons (vs := [.slice Q xs.length C]) rfl rfl cellsL_sl rfl (one1 rfl) (by rw [rc_len hP hR]; decide) ?_
     show fillE _ _ [] (lov (rcV (m0 : Int) (m1 : Int) (m2 : Int) P R (.slice none 0 0)) 67 [.slice Q xs.length C]) = _
     rw [rc_set67 hP hR]
     rfl
    refine run1 ?_
    refine mk_gen (cs := rc0) (M := fun s' => Wd _ _ _ _ _ _ s' _) fun sb rb nb kb => ?_
    have wb := kb.wf wa
    refine Wd.st rfl rfl rfl rfl rfl rfl (rc_len hP hR) rc_one rb (by decide) fun sc rC nc kc => ?_
    rw [lov_all (by rw [rc_len hP hR]; rfl)] at rC
    have wc := kc.wf wb
    have Kac : Kn sa sc := kb.app kc (Nat.le_refl _)
    have K4c : Kn s4 sc := K6.call Kac
    have k0c : Kn s sc := k02.call (K24.call K4c)
    obtain ⟨b7, hb7⟩ : ∃ b, b = sa.nx := ⟨_, rfl⟩
    rw [← hb7] at rC ⊢
    have l7 := rC.all (n := 68) (rc_len hP hR) (by decide)
    have hTc : TabAt sc := hT.kpN w0 (k0c.w)
    have hrcc := hrc.kn wa Kac
    have e6a := K6.le
    have e24 := K24.le
    have ec := Kac.le
    have RR2 : ∀ {t : St}, Kn sc t → Rw t b2 rc0 b2 := fun k => (((r1.kp w1 k2 id).kp w2 K24 id).kp w4 K4c id).kp wc k id
    refine run1 ?_
    by_cases hm : mayR (m0 : Int) (m1 : Int) (m2 : Int) xs
    ·refine Wo.call rfl (Xc.call ok17 rfl) rfl ((jbody_ok wc hTc hP hR hrcc hm hPb hRb (fun x hx => ⟨(hrcc.ok x hx).bk, (hrcc.ok x hx).bv⟩) rfl).mono ?_)
     rintro v sd ⟨bb, rfl, hbb, rd, kd⟩
     have wd := kd.wf wc
     have h00 : ¬ (0 : Nat) ≠ 0 := fun h => h rfl
     refine run1 ?_
     refine Wo.call rfl (Xc.call ok47 rfl) rfl ((bequal_ok rd.ats (h.kn w0 (k0c.call kd))).mono ?_)
     rintro v s' ⟨⟨g, rfl⟩, e'⟩; rw [e']; clear e' s'
     cases g with
     | false =>
      refine run1 ?_
      refine Wo.st (vs := rc0) rfl rfl rfl rfl rfl rfl rfl rc_one (RR2 kd) (by decide) fun tz pz mz gz => ?_
      rw [lov_all rfl] at pz
      refine run1 ?_
      have hcl := cell_at (B := B) (t := 26) rfl rfl pz rfl rfl
      refine Lv.ret (vs := [.agg ⟨rc0⟩, .bool false]) ?_ ⟨(k0c.call kd).app gz (by omega), .inl rfl⟩
      show (match cell1 B.P (.pointer (some ⟨b2, 0, none⟩)) 26 tz, some [Value.bool false] with | some v, some vs => some (v :: vs) | _, _ => none) = _
      rw [hcl]
     | true =>
      have l7d := (rC.kp wc kd id).all (n := 68) (rc_len hP hR) (by decide)
      refine run1 ?_
      refine Wo.st rfl rfl rfl rfl rfl rfl (rc_len hP hR) rc_one (RR2 kd) (by decide) fun tz pz mz gz => ?_
      rw [lov_all (by rw [rc_len hP hR]; rfl)] at pz
      refine run1 ?_
      have hcl := cell_at (B := B) (t := 26) rfl rfl pz (rc_len hP hR) rfl
      refine Lv.ret (vs := [.agg ⟨rcV (m0 : Int) (m1 : Int) (m2 : Int) P R (.slice Q xs.length C)⟩, .bool true]) ?_ ⟨(k0c.call kd).app gz (by omega), .inr ⟨_, rfl, rc_len hP hR, rc_one, rc_eqV⟩⟩
      show (match cell1 B.P (.pointer (some ⟨b2, 0, none⟩)) 26 tz, some [Value.bool true] with | some v, some vs => some (v :: vs) | _, _ => none) = _
      rw [hcl]
    ·refine Wo.call rfl (Xc.call ok17 rfl) rfl ((jbody_no wc hTc hP hR hrcc hm).mono ?_)
     rintro v sd ⟨rfl, kd⟩
     have h20 : (2 : Nat) ≠ 0 := by decide
     refine run1 ?_
     refine Wo.st (vs := rc0) rfl rfl rfl rfl rfl rfl rfl rc_one (RR2 kd) (by decide) fun tz pz mz gz => ?_
     rw [lov_all rfl] at pz
     refine run1 ?_
     have hcl := cell_at (B := B) (t := 26) rfl rfl pz rfl rfl
     refine Lv.ret (vs := [.agg ⟨rc0⟩, .bool false]) ?_ ⟨(k0c.call kd).app gz (by omega), .inl rfl⟩
     show (match cell1 B.P (.pointer (some ⟨b2, 0, none⟩)) 26 tz, some [Value.bool false] with | some v, some vs => some (v :: vs) | _, _ => none) = _
     rw [hcl]
 ·refine run1 ?_
  refine mkO (cs := z3) fun s3 r3 n3 k3 => ?_
  have w3 := k3.wf w2
  refine Wo.st rfl rfl rfl rfl rfl rfl rfl (by intro v hv; simp at hv; rcases hv with rfl | rfl | rfl <;> rfl) r3 (by decide) fun s4 r4 n4 k4 => ?_
  have K24 : Kn s2 s4 := k3.app k4 (Nat.le_refl _)
  refine run1 ?_
  refine Wo.st (vs := rc0) rfl rfl rfl rfl rfl rfl rfl rc_one ((r1.kp w1 k2 id).kp w2 K24 id) (by decide) fun tz pz mz gz => ?_
  rw [lov_all rfl] at pz
  refine run1 ?_
  have hcl := cell_at (B := B) (t := 26) rfl rfl pz rfl rfl
  refine Lv.ret (vs := [.agg ⟨rc0⟩, .bool false]) ?_ ⟨(k02.call K24).app gz (by omega), .inl rfl⟩
  show (match cell1 B.P (.pointer (some ⟨b2, 0, none⟩)) 26 tz, some [Value.bool false] with | some v, some vs => some (v :: vs) | _, _ => none) = _
  rw [hcl]
open Go Go.Ev Go.Sy
set_option maxRecDepth 100000
variable {s s0 : St} {p γ δ n c m N d : Nat} {q : Option Addr} {A D F G C : List Nat} {L cs : List Value}
theorem take_eq_iff {G C : List Nat} {i : Nat} (h1 : i < G.length) (h2 : i < C.length) : G.take (i + 1) = C.take (i + 1) ↔ G.take i = C.take i ∧ G.getD i 0 = C.getD i 0 := by
 rw [List.take_succ_eq_append_getElem h1, List.take_succ_eq_append_getElem h2, List.getD_eq_getElem?_getD, List.getD_eq_getElem?_getD, List.getElem?_eq_getElem h1, List.getElem?_eq_getElem h2]
 constructor
 ·intro h
  have := List.append_inj h (by rw [List.length_take, List.length_take]; omega)
  exact ⟨this.1, by simpa using this.2⟩
 ·rintro ⟨h3, h4⟩
  have h4 : G[i] = C[i] := h4
  rw [h3, h4]
theorem xor_zero_iff {x y : Nat} : x ^^^ y = 0 ↔ x = y := by
 constructor
 ·intro h
  have e : (x ^^^ y) ^^^ y = 0 ^^^ y := by rw [h]
  rw [Nat.xor_assoc, Nat.xor_self, Nat.xor_zero, Nat.zero_xor] at e
  exact e
 ·rintro rfl; exact Nat.xor_self _
theorem mequal_ok (w0 : Wf s) (hG : G.length = 32) (hC : C.length = 32) (bG : ∀ x ∈ G, x < 256) (bC : ∀ x ∈ C, x < 256) : Cl B (.call 48 [hsh G, hsh C]) s fun v s' => v = .bool (decide (G = C)) ∧ Kn s s' := by
 refine Cl.enter Tryz.f48 fn48 rfl rfl rfl ?_
 refine run1 ?_
 generalize hs1 : mkRow s (G.map nB) = s1
 generalize hs2 : mkRow s1 (C.map nB) = s2
 have r1 : Rw s1 s.nx (G.map nB) s.nx := hs1 ▸ mkRow_rw
 have k1 : Kn s s1 := hs1 ▸ mkRow_kn
 have r2 : Rw s2 s1.nx (C.map nB) s1.nx := hs2 ▸ mkRow_rw
 have k2 : Kn s1 s2 := hs2 ▸ mkRow_kn
 have w1 := k1.wf w0
 have R1 := r1.kp w1 k2 id
 refine W.loop (α := Nat × Nat) (fun a => [(2, .pointer (some ⟨s.nx, 0, none⟩)), (3, .pointer (some ⟨s1.nx, 0, none⟩)), (5, nB a.2), (7, nI a.1)]) (fun _ => []) (fun _ => s2)
  (fun a => a.1 ≤ 32 ∧ a.2 < 256 ∧ (a.2 = 0 ↔ G.take a.1 = C.take a.1)) (fun a => 32 - a.1) (0, 0) ⟨Nat.zero_le _, by decide, ⟨fun _ => rfl, fun _ => rfl⟩⟩ (.cons rfl (.cons rfl (.cons rfl (.cons rfl .nil)))) rfl rfl (by decide) ?_
 rintro ⟨i, a⟩ ⟨i1, i2, i3⟩
 simp only at i1 i2 i3
 dsimp only
 by_cases hi : i < 32
 ·have hx := mem_getD bG i
  have hy := mem_getD bC i
  obtain ⟨x, ex⟩ : ∃ x, x = G.getD i 0 := ⟨_, rfl⟩
  obtain ⟨y, ey⟩ : ∃ y, y = C.getD i 0 := ⟨_, rfl⟩
  rw [← ex] at hx
  rw [← ey] at hy
  have lg : ldq s2 (some ⟨s.nx, 0 + i * 1, none⟩) = some (nB x) := by
   rw [Nat.mul_one, ex]
   exact R1.f1 (by rw [List.getElem?_map, List.getD_eq_getElem?_getD, List.getElem?_eq_getElem (by omega)]; rfl)
  have lc : ldq s2 (some ⟨s1.nx, 0 + i * 1, none⟩) = some (nB y) := by
   rw [Nat.mul_one, ey]
   exact r2.f1 (by rw [List.getElem?_map, List.getD_eq_getElem?_getD, List.getElem?_eq_getElem (by omega)]; rfl)
  refine run1 ?_
  refine W.dr [(0, .none, 0), (1, .none, 0), (2, .none, 2), (3, .reads, 6), (4, .none, 0), (5, .none, 16), (6, .reads, 48), (7, .none, 126), (8, .none, 255), (9, .none, 511)] (by kernel_rfl) rfl (run1 ?_)
  refine Wd.val rfl (Xv.iaP rfl rfl rfl rfl hi) rfl (Nat.le_refl _) (run1 ?_)
  refine Wd.val rfl (Xv.iaP rfl rfl rfl rfl hi) rfl (Nat.le_refl _) (run1 ?_)
  refine rnd.n (i + 1, Nat.mod (Nat.lor a (Nat.mod (Nat.xor x y) 256)) 256) ⟨hi, Nat.mod_lt _ (by decide), ?_⟩ (by show 32 - (i + 1) < 32 - i; omega) (.cons rfl (.cons rfl (.cons rfl (.cons rfl .nil)))) rfl rfl
  show Nat.mod (Nat.lor a (Nat.mod (Nat.xor x y) 256)) 256 = 0 ↔ G.take (i + 1) = C.take (i + 1)
  have e1 : Nat.mod (Nat.xor x y) 256 = x ^^^ y := Nat.mod_eq_of_lt (Nat.xor_lt_two_pow (n := 8) hx hy)
  have e2 : Nat.mod (Nat.lor a (x ^^^ y)) 256 = a ||| (x ^^^ y) := Nat.mod_eq_of_lt (Nat.or_lt_two_pow (n := 8) i2 (Nat.xor_lt_two_pow (n := 8) hx hy))
  rw [e1, e2, take_eq_iff (by omega) (by omega), ← i3, Nat.or_eq_zero_iff, xor_zero_iff, ← ex, ← ey]
 ·obtain rfl : i = 32 := by omega
  rw [List.take_of_length_le (by omega), List.take_of_length_le (by omega)] at i3
  refine run1 ?_
  refine Lv.ret rfl ⟨?_, k1.call k2⟩
  exact congrArg Value.bool (decide_eq_decide.2 i3)
theorem bcmp_ne (hA : ∀ x ∈ A, x < 256) (hD : ∀ x ∈ D, x < 256) (h : A ≠ D) : bcmp A D ≠ 0 := by
 intro h0
 apply h
 unfold bcmp Extern.BytealgCompare.cmp at h0
 split at h0
 ·split at h0 <;> cases h0
 ·rename_i hn
  have hl : A.length = D.length := by
   split at h0
   ·cases h0
   ·split at h0
    ·cases h0
    ·rename_i h1 h2
     have h1 : ¬ (A.map UInt8.ofNat).length < (D.map UInt8.ofNat).length := h1
     have h2 : ¬ (A.map UInt8.ofNat).length > (D.map UInt8.ofNat).length := h2
     rw [List.length_map, List.length_map] at h1 h2
     omega
  refine List.ext_getElem hl fun i h1 h2 => ?_
  have := List.find?_eq_none.1 hn i (List.mem_range.2 (by
   show i < min (A.map UInt8.ofNat).length (D.map UInt8.ofNat).length
   rw [List.length_map, List.length_map]; omega))
  have hA' : i < (⟨⟨A.map UInt8.ofNat⟩⟩ : ByteArray).size := by show i < (A.map UInt8.ofNat).length; rw [List.length_map]; exact h1
  have hD' : i < (⟨⟨D.map UInt8.ofNat⟩⟩ : ByteArray).size := by show i < (D.map UInt8.ofNat).length; rw [List.length_map]; exact h2
  have e0 : (⟨⟨A.map UInt8.ofNat⟩⟩ : ByteArray)[i]! = (⟨⟨D.map UInt8.ofNat⟩⟩ : ByteArray)[i]! := by simpa using this
  rw [getElem!_pos (⟨⟨A.map UInt8.ofNat⟩⟩ : ByteArray) i hA', getElem!_pos (⟨⟨D.map UInt8.ofNat⟩⟩ : ByteArray) i hD'] at e0
  have e : (A.map UInt8.ofNat)[i]? = (D.map UInt8.ofNat)[i]? := by
   rw [List.getElem?_eq_getElem (by rw [List.length_map]; exact h1), List.getElem?_eq_getElem (by rw [List.length_map]; exact h2)]
   exact congrArg some e0
  rw [List.getElem?_map, List.getElem?_map, List.getElem?_eq_getElem h1, List.getElem?_eq_getElem h2] at e
  have e : UInt8.ofNat A[i] = UInt8.ofNat D[i] := Option.some.inj e
  have e := congrArg UInt8.toNat e
  rw [UInt8.toNat_ofNat', UInt8.toNat_ofNat', Nat.mod_eq_of_lt (hA _ (List.getElem_mem h1)), Nat.mod_eq_of_lt (hD _ (List.getElem_mem h2))] at e
  exact e
theorem bs1_no {r ql q1 : Option Addr} {d k1 cl : Nat} (hl : At s ql [.slice q1 A.length k1]) (h1 : At s q1 (A.map nB)) (h2 : At s r (D.map nB)) (hne : bcmp A D ≠ 0) : Cl B (.call 98 [.slice ql 1 cl, .slice r D.length d, bcf]) s fun v s' => v = .tuple ⟨[nI (if bcmp A D < 0 then 1 else 0), .bool false]⟩ ∧ s' = s := by
 refine Cl.enter Tryz.f98 fn98 rfl rfl rfl ?_
 have hgood : good ql := hl.good (i := 0) (Nat.zero_lt_one)
 have hld : ldq s (qadd ql (0 * 1)) = some (.slice q1 A.length k1) := hl.ld (i := 0) (Nat.zero_lt_one)
 refine run1 ?_
 refine W.loop (α := Nat × Nat) (fun j => [(0, .slice ql 1 cl), (1, .slice r D.length d), (2, bcf), (8, nI 1), (9, nI j.1), (10, nI j.2)]) (fun _ => []) (fun _ => s)
  (fun j => j = (0, 1) ∨ (bcmp A D < 0 ∧ j = (1, 1)) ∨ (¬ bcmp A D < 0 ∧ j = (0, 0))) (fun j => j.2 - j.1) (0, 1) (.inl rfl) (.cons rfl (.cons rfl (.cons rfl (.cons rfl (.cons rfl (.cons rfl .nil)))))) rfl rfl (by decide) ?_
 rintro ⟨i, j⟩ hj
 rcases hj with hj | ⟨hb, hj⟩ | ⟨hb, hj⟩
 ·cases hj
  have h01 : 0 < 1 := Nat.zero_lt_one
  refine run1 ?_
  refine Wo.call rfl (Xc.callv rfl ok29 rfl) rfl ((bcompare_ok h1 h2).mono ?_)
  rintro v s' ⟨rfl, e'⟩; rw [e']; clear e' s'
  by_cases hb : bcmp A D < 0
  ·refine run1 ?_
   exact rnd.n (1, 1) (.inr (.inl ⟨hb, rfl⟩)) (by decide) (.cons rfl (.cons rfl (.cons rfl (.cons rfl (.cons rfl (.cons rfl .nil)))))) rfl rfl
  ·refine run1 ?_
   exact rnd.n (0, 0) (.inr (.inr ⟨hb, rfl⟩)) (by decide) (.cons rfl (.cons rfl (.cons rfl (.cons rfl (.cons rfl (.cons rfl .nil)))))) rfl rfl
 ·cases hj
  have h11 : ¬ 1 < 1 := by decide
  refine run1 ?_
  refine Lv.ret rfl ⟨?_, rfl⟩
  rw [if_pos hb]; rfl
 ·cases hj
  have h01 : 0 < 1 := Nat.zero_lt_one
  have h00 : ¬ 0 < 0 := by decide
  refine run1 ?_
  refine Wo.call (gT rfl h01) (Xc.callv rfl ok29 rfl) rfl ((bcompare_ok h1 h2).mono ?_)
  rintro v s' ⟨rfl, e'⟩; rw [e']; clear e' s'
  refine run1 ?_
  refine Lv.ret rfl ⟨?_, rfl⟩
  have e : decide (bcmp A D = Int.ofNat 0) = false := decide_eq_false hne
  rw [if_neg hb, e]; rfl
theorem has_ok {b o : Nat} {l : List Value} {r : Nat} {M : MpE} {H : List Nat} {ql : Option Addr} {m cl i : Nat} {f : Bool} (w0 : Wf s) (hb : Rw s b l γ) (hm : l[o]? = some (.map (some r))) (hM : Mp s r M) (hH : H.length = 32) (hV : (mget H M).getD (.slice none 0 0) = .slice ql m cl)
  (hs : ∀ s', Kn s s' → Cl B (.call 98 [.slice ql m cl, .slice q A.length c, bcf]) s' fun v s'' => v = .tuple ⟨[nI i, .bool f]⟩ ∧ s'' = s') :
  Cl B (.call 49 [.pointer (some ⟨b, o, none⟩), hsh H, .slice q A.length c]) s fun v s' => v = .bool f ∧ Kn s s' := by
 refine Cl.enter Tryz.f49 fn49 rfl rfl rfl ?_
 refine run1 ?_
 refine mkO (cs := H.map nB) fun s1 r1 n1 k1 => ?_
 have w1 : Wf s1 := k1.wf w0
 have l1 := r1.all (n := 32) (by rw [List.length_map, hH]) (by decide)
 refine run1 ?_
 refine Wo.call rfl (Xc.call ok65 rfl) rfl ((place_ok w1 (hb.kp w0 k1 id) hm (hM.kp w0 k1 id) hH hV fun s' k => hs s' (k1.call k)).mono ?_)
 rintro v s2 ⟨rfl, k2⟩
 refine run1 ?_
 exact Lv.ret rfl ⟨rfl, k1.call k2⟩
open Go Go.Ev Go.Sy
set_option maxRecDepth 100000
variable {s s0 : St} {p γ δ n c m N d : Nat} {q : Option Addr} {A D F G C : List Nat} {L cs : List Value}
def Acc1 (cb b r1 r2 r3 N : Nat) (H D : List Nat) (s' : St) : Prop := ∃ ql cl qa ca γl γa v, Rw s' b (bkT 256 cb S0 (bl 0 r1 0 r2 1 r3 1)) b ∧ Mp s' r2 (mput H v []) ∧ Mp s' r3 (mput H (.slice ql 1 cl) []) ∧ Sl s' ql [.slice qa D.length ca] γl ∧ N ≤ γl ∧ Sl s' qa (D.map nB) γa ∧ N ≤ γa
set_option maxHeartbeats 1600000 in
theorem accept_ok {cb b r1 r2 r3 N : Nat} {A H D C : List Nat} (w0 : Wf s0) (hT : TabAt s0) (k0 : Kp (fun c => s0.nx ≤ c) s0 s) (hK : Coded1 cb b r1 r2 r3 N A H s) (hM3 : Mp s r3 []) (hr : s0.nx ≤ r2 ∧ r2 < r3 ∧ r3 < b ∧ b < N) (_hN : N ≤ s.nx) (hcb : cb ≤ 256) (hA : ∀ x ∈ A, x < 256) (hA0 : A ≠ [])
  (hq : Sl s q (D.map nB) δ) (hδ : δ ≠ b ∧ δ ≠ r3) (hc : Cap D.length c 1) (hD : ∀ x ∈ D, x < 256) (hD0 : D ≠ []) (hl : D.length < 2 ^ 40) (hC : C.length = 32) (hCb : ∀ x ∈ C, x < 256) (hne : cutOf (hmc S0 D) cb = C → C = H ∧ D ≠ A) :
  Cl B (.call 23 [.pointer (some ⟨b, 0, none⟩), .slice q D.length c, hsh C]) s fun v s' => (v = .bool false ∧ Kp (fun c => c = b) s s') ∨ (v = .bool true ∧ Kp (fun c => c = b ∨ c = r3) s s' ∧ ∀ s'', Kp (fun c => c ≠ b ∧ c ≠ r2 ∧ c ≠ r3 ∧ (c < s.nx ∨ s'.nx ≤ c)) s' s'' → Acc1 cb b r1 r2 r3 s.nx H D s'') := by
 have w : Wf s := k0.wf w0
 obtain ⟨ql, cl, qa, ca, γl, γa, hB, hM2, hL, hγl, hAa, hγa⟩ := hK
 have hbn := (hB.lt w).1
 refine Cl.enter Tryz.f23 fn23 rfl rfl rfl ?_
 have gd : good (some ⟨b, 0, none⟩) := good_b
 refine run1 ?_
 refine mkO (cs := C.map nB) fun s1 z1 m1 k1 => ?_
 have w1 : Wf s1 := k1.wf w
 have b1 := hB.kp w k1 id
 refine Wo.val rfl (Xv.pEq rfl rfl rfl) rfl (run1 ?_)
 refine Wo.val rfl (Xv.nilC rfl) rfl (run1 ?_)
 refine Wo.call rfl (Xc.call ok24 rfl) rfl ((lock_ok (o := 34) w1 b1 (by rw [show 34 = 34 + 0 from rfl, bkT_at rfl]; rfl)).mono ?_)
 rintro v s2 ⟨b2, m2, k2⟩
 rw [show lov (bkT 256 cb S0 (bl 0 r1 0 r2 1 r3 0)) 34 [Value.int .i32 1] = bkT 256 cb S0 (bl 1 r1 0 r2 1 r3 0) from bkT_set (i := 0) rfl (show 0 < 8 by decide)] at b2
 have w2 : Wf s2 := k2.wf w1
 refine run1 ?_
 refine Wo.val rfl (Xv.nilC rfl) rfl (run1 ?_)
 refine Wo.dfr rfl rfl rfl ?_
 refine run1 ?_
 have k02 : Kp (fun c => c = b) s s2 := (k1.w).trans k2
 have z2 := z1.kp w1 k2 (by omega)
 have q2 : At s2 q (D.map nB) := (hq.kp w k02 hδ.1).at
 have hT2 : TabAt s2 := hT.kpN w0 (k0.trans (k02.mono fun c h => by omega))
 have l2 := z2.all (n := 32) (by rw [List.length_map, hC]) (by decide)
 obtain ⟨G, hG⟩ : ∃ G, G = cutOf (hmc S0 D) cb := ⟨_, rfl⟩
 have hGl : G.length = 32 := by rw [hG]; exact cutH
 have hGb : ∀ x ∈ G, x < 256 := by rw [hG]; exact ctN_byte sumN_byte
 refine W.dr [(0, .none, 0), (1, .none, 0), (2, .acts, 3), (3, .reads, 0), (4, .acts, 15), (5, .none, 31)] (by kernel_rfl) rfl (run1 ?_)
 refine Wd.call rfl (Xc.call ok40 rfl) rfl ((codeOf_ok w2 hT2 b2 rfl S0_b q2 hD hc (by omega) hcb).mono ?_)
 rintro v s3 ⟨rfl, k3⟩
 rw [← hG] at hne ⊢
 have w3 : Wf s3 := k3.wf w2
 have z3' := z2.kp w2 k3 id
 have l3 := z3'.all (n := 32) (by rw [List.length_map, hC]) (by decide)
 refine ⟨k3.le, run1 ?_⟩
 refine Wd.read rfl (Xv.ldN rfl rfl rfl l3) rfl eqV_h ⟨Xv.ldN rfl rfl rfl l3, ⟨Xv.ldN rfl rfl rfl l2, trivial⟩⟩ (run1 ?_)
 refine Wd.call rfl (Xc.call ok48 rfl) rfl ((mequal_ok w3 hGl hC hGb hCb).mono ?_)
 rintro v s4 ⟨rfl, k4⟩
 have w4 : Wf s4 := k4.wf w3
 have k24 : Kn s2 s4 := k3.call k4
 have b4 := b2.kp w2 k24 id
 refine ⟨k4.le, ?_⟩
 have k04 : Kp (fun c => c = b) s s4 := k02.trans (k24.w)
 have h1 := k1.le
 have h2 := k2.le
 have h24 := k24.le
 have out : ∀ {t : St} {l : List Value}, l = bl 1 r1 0 r2 1 r3 0 → Rw t b (bkT 256 cb S0 l) b → Wf t → Cl B (.late 25 [.pointer (some ⟨b, 34, none⟩)]) t fun _ t' => Kp (fun c => c = b) t t' := fun hl hb _ => Cl.toLate rfl ((unlock_ok (o := 34) hb (by rw [show 34 = 34 + 0 from rfl, bkT_at rfl, hl]; rfl)).mono fun v s8 h => h.2.2)
 by_cases hGC : G = C
 ·obtain ⟨hCH, hDA⟩ := hne hGC
  have M4 : Mp s4 r2 (mput H (.slice ql 1 cl) []) := Mp.kp hM2 w k04 (by omega)
  have M34 : Mp s4 r3 [] := Mp.kp hM3 w k04 (by omega)
  have z4 := z3'.kp w3 k4 id
  have l4 := z4.all (n := 32) (by rw [List.length_map, hC]) (by decide)
  refine run1 ?_
  refine W.dr [(0, .none, 0), (1, .none, 1), (2, .none, 3), (3, .reads, 0), (4, .none, 0), (5, .acts, 31), (6, .none, 63)] (by kernel_rfl) rfl (run1 ?_)
  refine Wd.val rfl (Xv.nilC rfl) rfl (Nat.le_refl _) (run1 ?_)
  refine Wd.read rfl (Xv.ldN rfl rfl rfl l4) rfl eqV_h ⟨Xv.ldN rfl rfl rfl l4, trivial⟩ (run1 ?_)
  have hlt1 : γl < s.nx := by
   rcases hL with ⟨e, _⟩ | ⟨b', o, ob, l', e, k1, k2, k3, _⟩
   ·cases e
   ·rw [← k3]; exact (w.lt _ _ k1).2
  have hlt2 : γa < s.nx := by
   rcases hAa with ⟨e, _⟩ | ⟨b', o, ob, l', e, k1, k2, k3, _⟩
   ·exact absurd (List.map_eq_nil_iff.1 e) hA0
   ·rw [← k3]; exact (w.lt _ _ k1).2
  refine Wd.call rfl (Xc.call ok49 rfl) rfl ((has_ok (o := 38) (ql := ql) (m := 1) (cl := cl) (f := false) w4 b4 (by rw [show 38 = 34 + 4 from rfl, bkT_at rfl]; rfl) M4 hC (by rw [hCH, mget_put, if_pos rfl]; rfl) (fun s' k => bs1_no (A := A) (D := D) ((hL.kp w k04 (by omega)).kp w4 k id).at ((hAa.kp w k04 (by omega)).kp w4 k id).at ((hq.kp w k04 hδ.1).kp w4 k id).at (bcmp_ne hA hD fun h => hDA h.symm))).mono ?_)
  rintro v s5 ⟨rfl, k5⟩
  have w5 := k5.wf w4
  refine ⟨k5.le, run1 ?_⟩
  have l5 := (z4.kp w4 k5 id).all (n := 32) (by rw [List.length_map, hC]) (by decide)
  have b5 := b4.kp w4 k5 id
  have k05 : Kp (fun c => c = b) s s5 := k04.trans (k5.w)
  refine W.dr [(0, .none, 0), (1, .none, 1), (2, .none, 3), (3, .reads, 0), (4, .none, 0), (5, .acts, 31)] (by kernel_rfl) rfl (run1 ?_)
  refine Wd.val rfl (Xv.nilC rfl) rfl (Nat.le_refl _) (run1 ?_)
  refine Wd.read rfl (Xv.ldN rfl rfl rfl l5) rfl eqV_h ⟨Xv.ldN rfl rfl rfl l5, trivial⟩ (run1 ?_)
  refine Wd.call rfl (Xc.call ok41 rfl) rfl ((add_new (o := 40) (k := 0) w5 b5 (by rw [show 40 = 34 + 6 from rfl, bkT_at rfl]; rfl) (by rw [show 40 + 1 = 34 + 7 from rfl, bkT_at rfl]; rfl) (Mp.kp M34 w4 k5 id) (by omega) hC rfl (hq.kp w k05 hδ.1).at hl (by decide)).mono ?_)
  rintro v s6 ⟨ql', cl', qa', ca', γl', γa', M6, b6, L6, gL, A6, gA, k6⟩
  refine ⟨k6.le, ?_⟩
  have w6 := k6.wf w5
  have b6 : Rw s6 b (bkT 256 cb S0 (bl 1 r1 0 r2 1 r3 1)) b := by
   have e : (bkT 256 cb S0 (bl 1 r1 0 r2 1 r3 0)).set 41 (nI 1) = bkT 256 cb S0 (bl 1 r1 0 r2 1 r3 1) := by
    rw [← lov_one (by rw [bkT_len rfl]; exact (show 41 < 34 + 8 by decide))]
    exact bkT_set (i := 7) rfl (show 7 < 8 by decide)
   rw [← e]; exact b6
  refine run1 ?_
  refine Lv.retD (show 1 ≤ 100 by decide) ⟨by kernel_rfl, Cl.toLate rfl ((unlock_ok (o := 34) b6 (by rw [show 34 = 34 + 0 from rfl, bkT_at rfl]; rfl)).mono ?_)⟩
  rintro v s8 ⟨b8, m8, k8⟩
  rw [show lov (bkT 256 cb S0 (bl 1 r1 0 r2 1 r3 1)) 34 [Value.int .i32 0] = bkT 256 cb S0 (bl 0 r1 0 r2 1 r3 1) from bkT_set (i := 0) rfl (show 0 < 8 by decide)] at b8
  have w8 := k8.wf w6
  have h5 := k05.le
  have h6 := k6.le
  have ltl : γl' < s6.nx := by
   rcases L6 with ⟨e, _⟩ | ⟨b', o, ob, l', e, k1, k2, k3, _⟩
   ·cases e
   ·rw [← k3]; exact (w6.lt _ _ k1).2
  have lta : γa' < s6.nx := by
   rcases A6 with ⟨e, _⟩ | ⟨b', o, ob, l', e, k1, k2, k3, _⟩
   ·exact absurd (List.map_eq_nil_iff.1 e) hD0
   ·rw [← k3]; exact (w6.lt _ _ k1).2
  refine ⟨[.bool true], rfl, .inr ⟨rfl, ?_, fun s'' k => ⟨ql', cl', qa', ca', γl', γa', .slice ql 1 cl, b8.kp w8 k (fun h => h.1 rfl), ?_, ?_, (L6.kp w6 k8 (by omega)).kp w8 k (by omega), by omega, (A6.kp w6 k8 (by omega)).kp w8 k (by omega), by omega⟩⟩⟩
  ·exact ((k05.mono fun c h => .inl h).trans k6).trans (k8.mono fun c h => .inl h)
  ·exact Mp.kp (Mp.kp (Mp.kp (Mp.kp M4 w4 k5 id) w5 k6 (by omega)) w6 k8 (by omega)) w8 k (fun h => h.2.1 rfl)
  ·rw [hCH] at M6
   exact Mp.kp (Mp.kp M6 w6 k8 (by omega)) w8 k (fun h => h.2.2.1 rfl)
 ·refine Wd.val rfl (Xv.notF rfl hGC) rfl (Nat.le_refl _) ?_
  refine run1 ?_
  refine Lv.retD (show 1 ≤ 100 by decide) ⟨by kernel_rfl, (out rfl b4 w4).mono ?_⟩
  intro v s8 k8
  exact ⟨[.bool false], rfl, .inl ⟨rfl, k04.trans k8⟩⟩
end Go.Proofs.YtcnhinnpieehoaaGreatDoor
