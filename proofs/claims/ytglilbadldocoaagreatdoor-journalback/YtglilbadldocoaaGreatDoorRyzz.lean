import Derived.Test.YtglilbadldocoaaGreatDoorRxzz
import Derived.Test.YtglilbadldocoaaGreatDoorAczz
import Derived.Test.YtglilbadldocoaaGreatDoorWbzz
namespace Go.Proofs.YtglilbadldocoaaGreatDoor
open Go Go.Ev Go.Sy
set_option maxRecDepth 100000
variable {s s0 : St} {p γ δ n c m N d : Nat} {q : Option Addr} {A D F : List Nat} {L cs : List Value}
theorem digs_dgs (n : Nat) : Nz.digs n = dgs n := by
 induction n using Nat.strongRecOn with
 | ind n ih =>
  by_cases h : n = 0
  ·subst h; rw [dgs0]; rfl
  ·rw [Nz.digs_pos (by omega), dgsN h, ih _ (by omega)]
theorem hdr_hd (base n : Nat) : Nz.hdr base n = hd base n := by unfold Nz.hdr hd; rw [digs_dgs]
theorem form_S (b : List Nat) : Nz.form (.mk false b []) = fS b := by
 rw [Nz.form_mk]
 unfold fS Nz.alone Nz.gd
 by_cases h : b.length = 1 ∧ b.getD 0 0 < 128
 ·rw [if_pos h, decide_eq_true h.1, decide_eq_true h.2]; rfl
 ·rw [if_neg h, if_neg (by decide), if_neg (by rw [Bool.and_eq_true, decide_eq_true_eq, decide_eq_true_eq]; exact h), hdr_hd]
theorem form_L (xs : List Nz.It) : Nz.form (.mk true [] xs) = fL (Nz.forms xs) := by rw [Nz.form_mk, hdr_hd]; rfl
theorem forms_ch : ∀ (xs : List Ch), Nz.forms ((xs.map cv).map chI) = xs.flatMap chf
 | [] => by rw [List.map_nil, List.map_nil, Nz.forms_nil]; rfl
 | x :: xs => by
  rw [List.map_cons, List.map_cons, Nz.forms_cons, forms_ch xs, List.flatMap_cons]
  congr 1
  unfold chI chf
  rw [form_L]
  congr 1
  show Nz.forms (.mk false x.k [] :: if x.g then [] else [.mk false x.v []]) = chi x
  unfold chi
  rw [Nz.forms_cons, form_S]
  congr 1
  cases x.g with
  | true => exact Nz.forms_nil
  | false =>
   show Nz.forms [.mk false x.v []] = fS x.v
   rw [Nz.forms_cons, form_S, Nz.forms_nil, List.append_nil]
def rcI (k c q : Nat) (P R : List Nat) (ys : List (List Nat × List Nat × Bool)) : Nz.It := .mk true [] [.mk false (dgs k) [], .mk false (dgs c) [], .mk false (dgs q) [], .mk false P [], .mk false R [], .mk true [] (ys.map chI)]
theorem bdy_form (k c q : Nat) (P R : List Nat) (xs : List Ch) : bdy k c q P R xs = Nz.form (rcI k c q P R (xs.map cv)) := by
 unfold bdy rcI
 rw [form_L]
 congr 1
 simp only [Nz.forms_cons, Nz.forms_nil, form_S, form_L, forms_ch, List.append_assoc, List.append_nil]
theorem may_chI (y : List Nat × List Nat × Bool) : Nz.may (chI y) = true := by
 unfold chI
 rw [Nz.may_mk, if_pos rfl, Nz.mayL_cons, Nz.may_mk]
 cases y.2.2 with
 | true => show (List.isEmpty [] && (_ && Nz.mayL [])) = true; rw [Nz.mayL_nil]; rfl
 | false => show (List.isEmpty [] && (_ && Nz.mayL [_])) = true; rw [Nz.mayL_cons, Nz.may_mk, Nz.mayL_nil]; rfl
theorem dp_chI (y : List Nat × List Nat × Bool) : Nz.dp (chI y) ≤ 1 := by
 unfold chI
 rw [Nz.dp_mk, if_pos rfl, Nz.dpL_cons, Nz.dp_mk]
 cases y.2.2 with
 | true => show 1 + max _ (Nz.dpL []) ≤ 1; rw [Nz.dpL_nil]; exact Nat.le_refl _
 | false => show 1 + max _ (Nz.dpL [_]) ≤ 1; rw [Nz.dpL_cons, Nz.dp_mk, Nz.dpL_nil]; exact Nat.le_refl _
theorem dec_bdy {k c q : Nat} {P R : List Nat} {xs : List Ch} (hl : (bdy k c q P R xs).length ≤ 1048576) : Nz.dec (bdy k c q P R xs) = .ok (rcI k c q P R (xs.map cv)) := by
 have hm : Nz.may (rcI k c q P R (xs.map cv)) = true := by
  unfold rcI
  rw [Nz.may_mk, if_pos rfl, Nz.mayL_cons, Nz.mayL_cons, Nz.mayL_cons, Nz.mayL_cons, Nz.mayL_cons, Nz.mayL_cons, Nz.mayL_nil]
  simp only [Nz.may_mk, List.isEmpty_nil, Bool.true_and, Bool.and_true, if_true, Bool.false_eq_true, if_false]
  rw [Nz.mayL_iff]
  intro x hx
  obtain ⟨y, _, rfl⟩ := List.mem_map.1 hx
  exact may_chI y
 have hdL : ∀ ys : List (List Nat × List Nat × Bool), Nz.dpL (ys.map chI) ≤ 1 := fun ys => by
  induction ys with
  | nil => rw [List.map_nil, Nz.dpL_nil]; exact Nat.zero_le _
  | cons y ys ih => rw [List.map_cons, Nz.dpL_cons]; have := dp_chI y; omega
 have hd : Nz.dp (rcI k c q P R (xs.map cv)) ≤ 80 := by
  unfold rcI
  simp only [Nz.dp_mk, Nz.dpL_cons, Nz.dpL_nil, if_true, Bool.false_eq_true, if_false]
  have := hdL (xs.map cv)
  omega
 rw [bdy_form] at hl ⊢
 unfold Nz.dec
 rw [if_neg (by omega), Nz.rd_form _ _ 80 0 _ hm hd hl (Nz.At.self _) (by omega) (Nat.le_refl _)]
 simp only
 rw [if_neg (by omega)]
theorem num_dgs (n : Nat) : Nz.num (dgs n) = n := by rw [← digs_dgs, Nz.num_digs]
theorem dgs_first {n : Nat} : 0 < (dgs n).length → (dgs n).getD 0 0 ≠ 0 := fun h => by
 have hn : 0 < n := Nat.pos_of_ne_zero fun e => by rw [e, dgs0] at h; exact absurd h (Nat.lt_irrefl _)
 rw [← digs_dgs]
 exact Nz.digs_first hn
theorem bdy_cv {k c q : Nat} {P R : List Nat} {xs ys : List Ch} (h : xs.map cv = ys.map cv) : bdy k c q P R xs = bdy k c q P R ys := by rw [bdy_form, bdy_form, h]
theorem chM_cv : ∀ {xs ys : List Ch}, xs.map cv = ys.map cv → (∀ x ∈ ys, chM x) → ∀ x ∈ xs, chM x := fun {xs ys} h hy x hx => by
 have : cv x ∈ ys.map cv := h ▸ List.mem_map_of_mem hx
 obtain ⟨y, hy', e⟩ := List.mem_map.1 this
 have := hy y hy'
 unfold cv at e
 injection e with e1 e2
 injection e2 with e2 e3
 unfold chM at this ⊢
 rw [e1, e2, e3] at this; exact this
theorem mayR_cv {k c q : Int} {xs ys : List Ch} (h : xs.map cv = ys.map cv) (hm : mayR k c q ys) : mayR k c q xs := by
 have hl : xs.length = ys.length := by have := congrArg List.length h; rw [List.length_map, List.length_map] at this; exact this
 unfold mayR at hm ⊢
 rw [hl]
 exact ⟨hm.1, hm.2.1, hm.2.2.1, hm.2.2.2.1, chM_cv h hm.2.2.2.2⟩
set_option maxHeartbeats 1600000 in
theorem recordOf_ex {b o kk cn sq : Nat} {l P R : List Nat} {xs0 : List Ch} (w0 : Wf s) (hT : TabAt s) (h : At s (some ⟨b, o, none⟩) (l.map nB)) (hb : ∀ x ∈ l, x < 256) (hc : Rm c l.length 1) (hl : l.length ≤ 1048576) (hA : l = bdy kk cn sq P R xs0) (hP : P.length = 32) (hR : R.length = 32) (hPb : ∀ x ∈ P, x < 256) (hRb : ∀ x ∈ R, x < 256) (hm0 : mayR kk cn sq xs0) :
  Cl B (.call 43 [.slice (some ⟨b, o, none⟩) l.length c]) s fun v s' => ∃ Q xs r, v = .tuple ⟨[.agg ⟨rcV kk cn sq P R (.slice Q xs.length r)⟩, .bool true]⟩ ∧ (∀ t, Kp (fun c => c < s.nx ∨ s'.nx ≤ c) s' t → RcOk t Q xs) ∧ xs.map cv = xs0.map cv ∧ Kn s s' := by
 have hkk : kk < 2 ^ 50 := by rcases hm0.1 with ⟨h, _⟩ | ⟨h, _⟩ <;> omega
 have hcn : cn < 2 ^ 50 := by have := hm0.2.2.1; omega
 have hsq : sq < 2 ^ 50 := by have := hm0.2.2.2.1; have := hm0.2.2.1; omega
 have n8 : ∀ {n : Nat}, n < 2 ^ 50 → (dgs n).length ≤ 8 := fun {n} h => by rw [← digs_dgs]; exact Nz.digs_len_le (by omega)
 have nm : ∀ {n : Nat}, n < 2 ^ 50 → Nz.num (dgs n) < 9223372036854775808 := fun {n} h => by rw [num_dgs]; omega
 have hgo : ∀ y ∈ xs0.map cv, y.2.2 = true → y.2.1 = [] := fun y hy hg => by
  obtain ⟨x, hx, rfl⟩ := List.mem_map.1 hy
  have h1 := (hm0.2.2.2.2 x hx).2.2
  have h2 : x.g = true := hg
  rw [h2] at h1
  exact List.eq_nil_of_length_eq_zero (of_decide_eq_true h1.symm)
 refine Cl.enter Tryz.f43 fn43 rfl rfl rfl ?_
 refine run1 ?_
 refine mkO (cs := rc0) fun s1 r1 n1 k1 => ?_
 have w1 : Wf s1 := k1.wf w0
 obtain ⟨b2, hb2⟩ : ∃ b, b = s.nx := ⟨_, rfl⟩
 rw [← hb2] at r1 ⊢
 refine Wo.call rfl (Xc.call ok63 rfl) rfl ((decode_yes w1 (h.kn w0 k1) hb hc (by rw [hA]; exact dec_bdy (by rw [← hA]; exact hl))).mono ?_)
 rintro v s2 ⟨cs, rfl, hI, k2⟩
 have w2 := k2.wf w1
 have k02 : Kn s s2 := k1.call k2
 have e2 := k2.le
 have hI3 := hI.ix.im.len
 refine run1 ?_
 refine mkO (cs := z3) fun s3 r3 n3 k3 => ?_
 have w3 := k3.wf w2
 refine Wo.st rfl rfl rfl rfl rfl rfl hI3.1 hI3.2 r3 (by decide) fun s4 r4 n4 k4 => ?_
 rw [lov_all (by rw [hI3.1]; rfl)] at r4
 have w4 := k4.wf w3
 have K24 : Kn s2 s4 := k3.app k4 (Nat.le_refl _)
 obtain ⟨b4, hb4⟩ : ∃ b, b = s2.nx := ⟨_, rfl⟩
 rw [← hb4] at r4 ⊢
 have g4 : good (some ⟨b4, 0, none⟩) := good_b
 have h00 : ¬ (0 : Nat) ≠ 0 := fun h => h rfl
 obtain ⟨qi, ci, x0, x1, x2, x3, x4, x5, rfl, ha, h3, hix0, hix1, hix2, hix3, hix4, hix5⟩ : ∃ (qi : Option Addr) (ci : Nat) (x0 x1 x2 x3 x4 x5 : List Value), cs = [.bool true, .slice none 0 0, .slice qi 6 ci] ∧ At s2 qi [x0, x1, x2, x3, x4, x5].flatten ∧ (∀ x ∈ [x0, x1, x2, x3, x4, x5], x.length = 3) ∧ IxK s2 (fun c => c < s1.nx) 80 (.mk false (dgs kk) []) x0 ∧ IxK s2 (fun c => c < s1.nx) 80 (.mk false (dgs cn) []) x1 ∧ IxK s2 (fun c => c < s1.nx) 80 (.mk false (dgs sq) []) x2 ∧ IxK s2 (fun c => c < s1.nx) 80 (.mk false P []) x3 ∧ IxK s2 (fun c => c < s1.nx) 80 (.mk false R []) x4 ∧ IxK s2 (fun c => c < s1.nx) 80 (.mk true [] ((xs0.map cv).map chI)) x5 := by
  rcases hI with ⟨_, _, _, _, e, _⟩ | ⟨q, c, ps, _, e, rfl, h1, _, _, h2, h3⟩
  ·unfold rcI at e; cases e
  ·have e : [.mk false (dgs kk) [], .mk false (dgs cn) [], .mk false (dgs sq) [], .mk false P [], .mk false R [], .mk true [] ((xs0.map cv).map chI)] = ps.map Prod.fst := by unfold rcI at e; injection e
   have hlen : ps.length = 6 := by have := congrArg List.length e; rw [List.length_map] at this; exact this.symm
   obtain ⟨p0, p1, p2, p3, p4, p5, rfl⟩ : ∃ p0 p1 p2 p3 p4 p5, ps = [p0, p1, p2, p3, p4, p5] := by
    clear e h1 h2 h3
    match ps, hlen with
    | [a, b, c, d, e, f], _ => exact ⟨a, b, c, d, e, f, rfl⟩
   simp only [List.map_cons, List.map_nil, List.cons.injEq, and_true] at e
   obtain ⟨e0, e1, e2, e3, e4, e5⟩ := e
   refine ⟨q, c, p0.2, p1.2, p2.2, p3.2, p4.2, p5.2, rfl, h1.at, ?_, ?_, ?_, ?_, ?_, ?_, ?_⟩
   ·intro x hx
    simp only [List.mem_cons, List.not_mem_nil, or_false] at hx
    rcases hx with rfl | rfl | rfl | rfl | rfl | rfl <;> exact (h3 _ (by simp)).1
   ·rw [e0]; exact (h3 p0 (by simp)).2
   ·rw [e1]; exact (h3 p1 (by simp)).2
   ·rw [e2]; exact (h3 p2 (by simp)).2
   ·rw [e3]; exact (h3 p3 (by simp)).2
   ·rw [e4]; exact (h3 p4 (by simp)).2
   ·rw [e5]; exact (h3 p5 (by simp)).2
 have l2 : ldq s4 (qadd (some ⟨b4, 0, none⟩) 2) = some (.slice qi 6 ci) := r4.f1 rfl
 have h6 : ¬ (6 : Nat) ≠ 6 := fun h => h rfl
 have gi : good qi := (kid (i := 0) ha h3 rfl).1
 have L2 : ∀ {t : St}, Kn s4 t → ldq t (qadd (some ⟨b4, 0, none⟩) 2) = some (.slice qi 6 ci) := fun k => (r4.kp w4 k id).f1 rfl
 have LX : ∀ {t : St} {i : Nat} {x : List Value}, Kn s4 t → [x0, x1, x2, x3, x4, x5][i]? = some x → ldn t (qadd qi (i * 3)) 3 = some x := fun k hx => (kid (ha.kn w2 (K24.call k)) h3 hx).2
 refine run1 ?_
 have i40 := eqV_im hix0.ix.im
 have i41 := eqV_im hix1.ix.im
 have i42 := eqV_im hix2.ix.im
 have i43 := eqV_im hix3.ix.im
 have i44 := eqV_im hix4.ix.im
 have i45 := eqV_im hix5.ix.im
 have a0 := L2 .refl
 have b0_0 := LX (i := 0) .refl rfl
 have b1_0 := LX (i := 1) .refl rfl
 have b2_0 := LX (i := 2) .refl rfl
 have b3_0 := LX (i := 3) .refl rfl
 have b4_0 := LX (i := 4) .refl rfl
 have b5_0 := LX (i := 5) .refl rfl
 refine W.dr [(0, .none, 0), (1, .reads, 1), (2, .none, 3), (3, .reads, 7), (4, .acts, 15), (5, .none, 0), (6, .reads, 32), (7, .none, 96), (8, .reads, 224), (9, .acts, 511), (10, .none, 0), (11, .reads, 1024), (12, .none, 3072), (13, .reads, 7168), (14, .acts, 16383), (15, .none, 0), (16, .reads, 32768), (17, .none, 98304), (18, .reads, 229376), (19, .acts, 524287), (20, .none, 0), (21, .reads, 1048576), (22, .none, 3145728), (23, .reads, 7340032), (24, .acts, 16777215), (25, .none, 0), (26, .reads, 33554432), (27, .none, 100663296), (28, .reads, 234881024), (29, .acts, 536870911), (30, .none, 1073741823), (31, .makes, 0), (32, .acts, 4294967295)] (by kernel_rfl) rfl (run1 ?_)
 have K0 : Kn s4 s4 := .refl
 refine Wd.read rfl (Xv.ldN rfl rfl rfl b0_0) rfl i40 ⟨Xv.ldN rfl rfl rfl b0_0, trivial⟩ (run1 ?_)
 refine Wd.call rfl (Xc.call ok64 rfl) rfl ((jnum_ex (d := 79) w4 (hix0.ix.kn w2 (K24.call K0)) (n8 hkk) dgs_first (nm hkk)).mono ?_)
 rintro v s5 ⟨rfl, k5⟩
 rw [num_dgs]
 have w5 := k5.wf w4
 have K1 : Kn s4 s5 := K0.call k5
 have a1 := L2 K1
 have b1_1 := LX (i := 1) K1 rfl
 have b2_1 := LX (i := 2) K1 rfl
 have b3_1 := LX (i := 3) K1 rfl
 have b4_1 := LX (i := 4) K1 rfl
 have b5_1 := LX (i := 5) K1 rfl
 refine ⟨k5.le, run1 ?_⟩
 refine Wd.read rfl (Xv.ldN rfl rfl rfl b1_1) rfl i41 ⟨Xv.ldN rfl rfl rfl b1_1, ⟨Xv.ldN rfl rfl rfl b1_0, trivial⟩⟩ (run1 ?_)
 refine Wd.call rfl (Xc.call ok64 rfl) rfl ((jnum_ex (d := 79) w5 (hix1.ix.kn w2 (K24.call K1)) (n8 hcn) dgs_first (nm hcn)).mono ?_)
 rintro v s6 ⟨rfl, k6⟩
 rw [num_dgs]
 have w6 := k6.wf w5
 have K2 : Kn s4 s6 := K1.call k6
 have a2 := L2 K2
 have b2_2 := LX (i := 2) K2 rfl
 have b3_2 := LX (i := 3) K2 rfl
 have b4_2 := LX (i := 4) K2 rfl
 have b5_2 := LX (i := 5) K2 rfl
 refine ⟨k6.le, run1 ?_⟩
 refine Wd.read rfl (Xv.ldN rfl rfl rfl b2_2) rfl i42 ⟨Xv.ldN rfl rfl rfl b2_2, ⟨Xv.ldN rfl rfl rfl b2_1, ⟨Xv.ldN rfl rfl rfl b2_0, trivial⟩⟩⟩ (run1 ?_)
 refine Wd.call rfl (Xc.call ok64 rfl) rfl ((jnum_ex (d := 79) w6 (hix2.ix.kn w2 (K24.call K2)) (n8 hsq) dgs_first (nm hsq)).mono ?_)
 rintro v s7 ⟨rfl, k7⟩
 rw [num_dgs]
 have w7 := k7.wf w6
 have K3 : Kn s4 s7 := K2.call k7
 have a3 := L2 K3
 have b3_3 := LX (i := 3) K3 rfl
 have b4_3 := LX (i := 4) K3 rfl
 have b5_3 := LX (i := 5) K3 rfl
 refine ⟨k7.le, run1 ?_⟩
 refine Wd.read rfl (Xv.ld rfl rfl rfl a3) rfl eqV_slice ⟨Xv.ld rfl rfl rfl a3, ⟨Xv.ld rfl rfl rfl a2, ⟨Xv.ld rfl rfl rfl a1, ⟨Xv.ld rfl rfl rfl a0, trivial⟩⟩⟩⟩ (run1 ?_)
 refine Wd.read rfl (Xv.ldN rfl rfl rfl b3_3) rfl i43 ⟨Xv.ldN rfl rfl rfl b3_3, ⟨Xv.ldN rfl rfl rfl b3_2, ⟨Xv.ldN rfl rfl rfl b3_1, ⟨Xv.ldN rfl rfl rfl b3_0, trivial⟩⟩⟩⟩ (run1 ?_)
 refine Wd.call rfl (Xc.call ok65 rfl) rfl ((hashOf_ex (d := 79) w7 (hix3.ix.kn w2 (K24.call K3)) hP).mono ?_)
 rintro v s8 ⟨rfl, k8⟩
 have w8 := k8.wf w7
 have K4 : Kn s4 s8 := K3.call k8
 have a4 := L2 K4
 have b4_4 := LX (i := 4) K4 rfl
 have b5_4 := LX (i := 5) K4 rfl
 refine ⟨k8.le, run1 ?_⟩
 refine Wd.read rfl (Xv.ld rfl rfl rfl a4) rfl eqV_slice ⟨Xv.ld rfl rfl rfl a4, ⟨Xv.ld rfl rfl rfl a3, ⟨Xv.ld rfl rfl rfl a2, ⟨Xv.ld rfl rfl rfl a1, ⟨Xv.ld rfl rfl rfl a0, trivial⟩⟩⟩⟩⟩ (run1 ?_)
 refine Wd.read rfl (Xv.ldN rfl rfl rfl b4_4) rfl i44 ⟨Xv.ldN rfl rfl rfl b4_4, ⟨Xv.ldN rfl rfl rfl b4_3, ⟨Xv.ldN rfl rfl rfl b4_2, ⟨Xv.ldN rfl rfl rfl b4_1, ⟨Xv.ldN rfl rfl rfl b4_0, trivial⟩⟩⟩⟩⟩ (run1 ?_)
 refine Wd.call rfl (Xc.call ok65 rfl) rfl ((hashOf_ex (d := 79) w8 (hix4.ix.kn w2 (K24.call K4)) hR).mono ?_)
 rintro v s9 ⟨rfl, k9⟩
 have w9 := k9.wf w8
 have K5 : Kn s4 s9 := K4.call k9
 have a5 := L2 K5
 have b5_5 := LX (i := 5) K5 rfl
 refine ⟨k9.le, run1 ?_⟩
 refine Wd.read rfl (Xv.ld rfl rfl rfl a5) rfl eqV_slice ⟨Xv.ld rfl rfl rfl a5, ⟨Xv.ld rfl rfl rfl a4, ⟨Xv.ld rfl rfl rfl a3, ⟨Xv.ld rfl rfl rfl a2, ⟨Xv.ld rfl rfl rfl a1, ⟨Xv.ld rfl rfl rfl a0, trivial⟩⟩⟩⟩⟩⟩ (run1 ?_)
 refine Wd.read rfl (Xv.ldN rfl rfl rfl b5_5) rfl i45 ⟨Xv.ldN rfl rfl rfl b5_5, ⟨Xv.ldN rfl rfl rfl b5_4, ⟨Xv.ldN rfl rfl rfl b5_3, ⟨Xv.ldN rfl rfl rfl b5_2, ⟨Xv.ldN rfl rfl rfl b5_1, ⟨Xv.ldN rfl rfl rfl b5_0, trivial⟩⟩⟩⟩⟩⟩ (run1 ?_)
 refine Wd.call rfl (Xc.call ok66 rfl) rfl ((changesOf_ex (d := 77) (C := fun c => c < s1.nx) w9 (hix5.step w2 ((K24.call K5).w) fun c hc => .inl hc) (fun c hc => by have hc : c < s1.nx := hc; have := k2.le; have := K24.le; have := K5.le; omega) hgo).mono ?_)
 rintro v sa ⟨Q, xs, C, rfl, hrcK, hcv, ka⟩
 have hrc := hrcK sa .refl
 have wa := ka.wf w9
 have K6 : Kn s4 sa := K5.call ka
 refine ⟨ka.le, run1 ?_⟩
 refine Wd.val rfl (Xv.buildE (cs := rcV (kk : Int) (cn : Int) (sq : Int) P R (.slice Q xs.length C)) rfl ?_) rfl (Nat.le_refl _) ?_
 ·refine fill_cons (vs := [nI kk]) rfl rfl cellsL_int rfl (one1 rfl) (by decide) ?_
  refine fill_cons (vs := [nI cn]) rfl rfl cellsL_int rfl (one1 rfl) (show 1 + 1 ≤ 68 by decide) ?_
  refine fill_cons (vs := [nI sq]) rfl rfl cellsL_int rfl (one1 rfl) (show 2 + 1 ≤ 68 by decide) ?_
  have e0 : lov (lov (lov rc0 0 [nI kk]) 1 [nI cn]) 2 [nI sq] = rcV (kk : Int) (cn : Int) (sq : Int) (List.replicate 32 0) (List.replicate 32 0) (.slice none 0 0) := rfl
  refine fill_cons (vs := P.map nB) rfl rfl rfl (by rw [List.length_map, hP]) one_nB (show 3 + 32 ≤ 68 by decide) ?_
  show fillE _ _ _ (lov (rcV (kk : Int) (cn : Int) (sq : Int) (List.replicate 32 0) (List.replicate 32 0) (.slice none 0 0)) 3 (P.map nB)) = _
  rw [rc_set3 (by rw [hP]; rfl)]
  refine fill_cons (vs := R.map nB) rfl rfl rfl (by rw [List.length_map, hR]) one_nB (by rw [rc_len hP rfl]; decide) ?_
  show fillE _ _ _ (lov (rcV (kk : Int) (cn : Int) (sq : Int) P (List.replicate 32 0) (.slice none 0 0)) 35 (R.map nB)) = _
  rw [rc_set35 hP (by rw [hR]; rfl)]
  refine fill_cons (vs := [.slice Q xs.length C]) rfl rfl cellsL_sl rfl (one1 rfl) (by rw [rc_len hP hR]; decide) ?_
  show fillE _ _ [] (lov (rcV (kk : Int) (cn : Int) (sq : Int) P R (.slice none 0 0)) 67 [.slice Q xs.length C]) = _
  rw [rc_set67 hP hR]
  rfl
 refine run1 ?_
 refine mk_gen (cs := rc0) (M := fun s' => Wd _ _ _ _ _ _ s' _) fun sb rb nb kb => ?_
 have wb := kb.wf wa
 refine Wd.st rfl rfl rfl rfl rfl rfl (rc_len hP hR) rc_one rb (by decide) fun sc rC nc kc => ?_
 rw [lov_all (by rw [rc_len hP hR]; rfl)] at rC
 have wc := kc.wf wb
 have Kac : Kn sa sc := kb.app kc (Nat.le_refl _)
 have K4c : Kn s4 sc := K6.call Kac
 have k0c : Kn s sc := k02.call (K24.call K4c)
 obtain ⟨b7, hb7⟩ : ∃ b, b = sa.nx := ⟨_, rfl⟩
 rw [← hb7] at rC ⊢
 have l7 := rC.all (n := 68) (rc_len hP hR) (by decide)
 have hTc : TabAt sc := hT.kpN w0 (k0c.w)
 have hrcc := hrc.kn wa Kac
 have e6a := K6.le
 have e24 := K24.le
 have ec := Kac.le
 have RR2 : ∀ {t : St}, Kn sc t → Rw t b2 rc0 b2 := fun k => (((r1.kp w1 k2 id).kp w2 K24 id).kp w4 K4c id).kp wc k id
 refine run1 ?_
 have hm : mayR (kk : Int) (cn : Int) (sq : Int) xs := mayR_cv hcv hm0
 have hAl : l = bdy kk cn sq P R xs := by rw [hA]; exact (bdy_cv hcv).symm
 refine Wo.call rfl (Xc.call ok16 rfl) rfl ((jbody_ok wc hTc hP hR hrcc hm hPb hRb (fun x hx => ⟨(hrcc.ok x hx).bk, (hrcc.ok x hx).bv⟩) hAl).mono ?_)
 rintro v sd ⟨bb, rfl, hbb, rd, kd⟩
 have wd := kd.wf wc
 refine run1 ?_
 refine Wo.call rfl (Xc.call ok62 rfl) rfl ((bequal_same rd.ats (h.kn w0 (k0c.call kd))).mono ?_)
 rintro v s' ⟨rfl, e'⟩; rw [e']; clear e' s'
 have l7d := (rC.kp wc kd id).all (n := 68) (rc_len hP hR) (by decide)
 refine run1 ?_
 refine Wo.st rfl rfl rfl rfl rfl rfl (rc_len hP hR) rc_one (RR2 kd) (by decide) fun tz pz mz gz => ?_
 rw [lov_all (by rw [rc_len hP hR]; rfl)] at pz
 refine run1 ?_
 have hcl := cell_at (B := B) (t := 35) rfl rfl pz (rc_len hP hR) rfl
 refine Lv.ret (vs := [.agg ⟨rcV (kk : Int) (cn : Int) (sq : Int) P R (.slice Q xs.length C)⟩, .bool true]) ?_ ⟨Q, xs, C, rfl, (fun t kt => hrcK t ?_), hcv, (k0c.call kd).app gz (by omega)⟩
 show (match cell1 B.P (.pointer (some ⟨b2, 0, none⟩)) 35 tz, some [Value.bool true] with | some v, some vs => some (v :: vs) | _, _ => none) = _
 rw [hcl]
 ·have e1 := k1.le
  have ed := kd.le
  exact (((Kac.call kd).w).trans (gz.mono fun c h => .inl (by omega))).trans (kt.mono fun c h => h.imp (fun h => by omega) (fun h => by omega))
end Go.Proofs.YtglilbadldocoaaGreatDoor
