import Derived.Test.YteldpcbhfbgomaaGreatDoorCwzz
import Derived.Test.YteldpcbhfbgomaaGreatDoorWstzz
import Derived.Test.YteldpcbhfbgomaaGreatDoorBbzz
import Derived.Test.YteldpcbhfbgomaaGreatDoorKjzz
import Derived.Test.YteldpcbhfbgomaaGreatDoorWslzz
import Derived.Test.YteldpcbhfbgomaaGreatDoorCazz
namespace Go.Proofs.YteldpcbhfbgomaaGreatDoor
open Go Go.Ev Go.Sy
set_option maxRecDepth 100000
variable {s : St} {qs : Option Addr} {cS : Nat} {S : List Nat}
theorem rwrite_ok {k c q : Nat} {P R : List Nat} {Q : Option Addr} {xs : List Ch} {C b nb cb γ : Nat} {x0 x2 : Value} {H A : List Nat} (w0 : Wf s) (hP : P.length = 32) (hR : R.length = 32) (h : RcOk s Q xs) (hm : mayR k c q xs) (hPb : ∀ x ∈ P, x < 256) (hRb : ∀ x ∈ R, x < 256) (hx : ∀ x ∈ xs, (∀ y ∈ x.k, y < 256) ∧ ∀ y ∈ x.v, y < 256)
  (hcb : cb ≤ 256) (hT : TabAt s) (hb : Rw s b (rbV nb cb (.slice qs S.length cS) x0 (.slice none 0 0) x2) γ) (ha : Bs s qs S) (hS : ∀ x ∈ S, x < 256) (hl : S.length < 2 ^ 40) (hA : A = bdy k c q P R xs) (hH : H = cutOf (hmc S A) cb) :
  Cl B (.call 8 [.pointer (some ⟨b, 0, none⟩), .agg ⟨rcV k c q P R (.slice Q xs.length C)⟩]) s fun v s' => ∃ qo co γo, v = .tuple ⟨[.slice qo (fw (A ++ H)).length co, hsh H, nI 0]⟩ ∧ Gw s' qo (fw (A ++ H)).length co 1 ((fw (A ++ H)).map nB) γo ∧ s.nx ≤ γo ∧ Kp (fun c => c = γ) s s' ∧ ∃ q' cc δ qu cu γu, Rw s' b (rbV nb cb (.slice qs S.length cS) x0 (.slice q' 1 cc) x2) γ ∧ s.nx ≤ δ ∧ Gw s' q' 1 cc 33 (ntc (.slice qu A.length cu) H) δ ∧ Gw s' qu A.length cu 1 (A.map nB) γu ∧ s.nx ≤ γu := by
 have hAl := bdy_ok hP hR hm hPb hRb hx
 rw [← hA] at hAl
 have hHl : H.length = 32 := by rw [hH]; exact ctN_length.trans hmc_length
 have gb : good (some ⟨b, 0, none⟩) := good_b
 have hbl := hb.lt w0
 refine Cl.enter Tryz.f8 fn8 rfl rfl rfl ?_
 refine run1 ?_
 obtain ⟨z, hz⟩ : ∃ z : List Value, z = (List.replicate 32 0).map nB := ⟨_, rfl⟩
 have hzl : z.length = 32 := by rw [hz]; rfl
 obtain ⟨s2, bz, f1, f2, hbz, r2, z2, n2, k2⟩ := two_mk (cs := rcV k c q P R (.slice Q xs.length C)) (ds := z) w0
 rw [show mkRow (mkRow s _) _ = s2 from (by rw [← f1, hz]; rfl), show (mkRow s _).nx = bz from f2]
 have w2 : Wf s2 := k2.wf w0
 have gd : good (some ⟨s.nx, 0, none⟩) := good_b
 have lr := r2.all (n := 68) (rc_len hP hR) (by decide)
 refine run1 ?_
 refine Wo.call rfl (Xc.call ok7 rfl) rfl ((rbody_ok w2 hP hR (h.kn w0 k2) hm).mono ?_)
 rw [← hA]
 rintro v s3 ⟨_, rfl, q3, c3, γ3, rfl, g3, l3, k3⟩
 have w3 : Wf s3 := k3.wf w2
 have k03 : Kn s s3 := k2.call k3
 refine run1 ?_
 have hc := rbcode0_ok (d := c3) w3 hcb (hT.kpN w0 (k03.mono fun _ h => absurd h id)) (hb.kp w0 k03 id) (ha.kn w0 k03) hS hl g3.sl.at hAl.2 (by omega)
 rw [← hH] at hc
 refine Wo.call rfl (Xc.call ok24 rfl) rfl (hc.mono ?_)
 rintro v s4 ⟨rfl, k4, q', cc, δ, qu, cu, γu, b4, d4, e4, u4, lu⟩
 have w4 : Wf s4 := k4.wf w3
 refine run1 ?_
 refine mk_gen (cs := (List.replicate 32 0).map nB) (M := fun s' => Wo _ _ _ _ _ s' _) fun s5 y5 n5 k5 => ?_
 have w5 : Wf s5 := k5.wf w4
 refine Wo.st rfl rfl rfl rfl rfl rfl (by rw [List.length_map, hHl]) one_nB y5 (by rw [List.length_map, List.length_replicate]; decide) fun s6 y6 n6 k6 => ?_
 rw [lov_all (by rw [List.length_map, List.length_map, hHl, List.length_replicate])] at y6
 have K6 : Kn s4 s6 := k5.app k6 (Nat.le_refl _)
 have w6 : Wf s6 := K6.wf w4
 have gy : good (some ⟨s4.nx, 0, none⟩) := good_b
 refine run1 ?_
 refine W.dr [(0, .makes, 0), (1, .none, 0), (2, .acts, 3), (3, .none, 0), (4, .acts, 15), (5, .acts, 31), (6, .none, 63), (7, .none, 127), (8, .none, 127), (9, .none, 255), (10, .none, 1023)] (by kernel_rfl) rfl (run1 ?_)
 refine mk_gen (cs := []) (M := fun s' => Wd _ _ _ _ _ _ s' _) fun s7 r7 n7 k7 => ?_
 have w7 : Wf s7 := k7.wf w6
 have e2 := k2.le
 have e3 := k3.le
 have e4' := k4.le
 have e6 := K6.le
 have g7 : Bs s7 q3 A := ((g3.kp w3 k4 (by omega)).kp w4 (K6.call k7) id).sl.at
 refine Wd.appB (A := []) (D := A) rfl rfl rfl rfl rfl rfl rfl rfl w7 (r7.gw rfl) g7 rfl (by rw [List.length_nil]; omega) ?_
 intro q8 c8 γ8 s8 p1 p2 p3
 have k8 : Kn s6 s8 := k7.app p2 (Nat.le_refl _)
 have w8 : Wf s8 := k8.wf w6
 have l8 : s6.nx ≤ γ8 := by have := k7.le; rcases p3 with h | ⟨h, _⟩ <;> omega
 rw [List.nil_append] at p1
 refine run1 ?_
 refine Wd.val rfl (Xv.slP (b := s4.nx) (o := 0) rfl rfl rfl (by decide)).1 rfl (Nat.le_refl _) ?_
 have y8 := y6.kp w6 k8 id
 refine Wd.appB (A := A) (D := H) rfl rfl rfl rfl rfl rfl rfl (by rw [hHl]; rfl) w8 p1 y8.ats rfl (by omega) ?_
 intro q9 c9 γ9 s9 t1 t2 t3
 have k9 : Kn s6 s9 := k8.app t2 l8
 have w9 : Wf s9 := k9.wf w6
 refine Wd.call rfl (Xc.call ok25 rfl) rfl ((rwrap_ok w9 t1.sl.at (by rw [List.length_append]; omega)).mono ?_)
 rintro v sa ⟨_, rfl, qa, ca, γa, rfl, ga, la, ka⟩
 refine ⟨ka.le, ?_⟩
 have wa : Wf sa := ka.wf w9
 have Ka : Kn s6 sa := k9.call ka
 have ya := y6.kp w6 Ka id
 have lya := ya.all (n := 32) (by rw [List.length_map, hHl]) (by decide)
 refine run1 ?_
 refine W.dr [(0, .none, 0), (1, .reads, 0), (2, .none, 1), (3, .acts, 7), (4, .none, 15)] (by kernel_rfl) rfl (run1 ?_)
 refine Wd.read rfl (Xv.ldN rfl rfl rfl lya) rfl eqV_h ⟨Xv.ldN rfl rfl rfl lya, trivial⟩ (run1 ?_)
 have z4 := (z2.kp w2 k3 id).kp w3 k4 (by omega)
 have za := z4.kp w4 (K6.call Ka) id
 refine Wd.st rfl rfl rfl rfl rfl rfl (by rw [List.length_map, hHl]) one_nB za (by rw [hzl]; decide) fun sb rb nb' kb => ?_
 rw [lov_all (by rw [List.length_map, hHl, hzl])] at rb
 have K4a : Kn s4 sa := K6.call Ka
 have e9 := k9.le
 have K0b : Kp (fun c => c = γ) s sb := by
  have h1 : Kp (fun c => c = γ) s s4 := (k03.mono fun _ h => absurd h id).trans k4
  exact Kp.late (h1.trans (K4a.mono fun _ h => absurd h id)) kb (by omega)
 refine run1 ?_
 have hcl := cell_at (B := B) (t := 23) (n := 32) (k := .ar 32 5) rfl rfl rb (by rw [List.length_map, hHl]) rfl
 refine Lv.ret (vs := [.slice qa (fw (A ++ H)).length ca, hsh H, nI 0]) ?_ ⟨qa, ca, γa, rfl, ga.kp wa kb (by omega), by omega, K0b, q', cc, δ, qu, cu, γu, (b4.kp w4 K4a id).kp wa kb (by omega), by omega, (e4.kp w4 K4a id).kp wa kb (by omega), (u4.kp w4 K4a id).kp wa kb (by omega), by omega⟩
 show (match some (Value.slice qa (fw (A ++ H)).length ca), (match cell1 B.P (.pointer (some ⟨bz, 0, none⟩)) 23 sb, some [nI 0] with | some v, some vs => some (v :: vs) | _, _ => none) with | some v, some vs => some (v :: vs) | _, _ => none) = _
 rw [hcl]; rfl
open Go Go.Ev Go.Sy
set_option maxRecDepth 100000
variable {s : St}
theorem jbody_no {k c q : Int} {P R : List Nat} {Q : Option Addr} {xs : List Ch} {C : Nat} (w0 : Wf s) (hT : TabAt s) (hP : P.length = 32) (hR : R.length = 32) (h : RcOk s Q xs) (hm : ¬ mayR k c q xs) :
  Cl B (.call 9 [.agg ⟨rcV k c q P R (.slice Q xs.length C)⟩]) s fun v s' => v = .tuple ⟨[.slice none 0 0, nI 2]⟩ ∧ Kn s s' := by
 refine Cl.enter Tryz.f9 fn9 rfl rfl rfl ?_
 refine run1 ?_
 refine mk_gen (cs := rcV k c q P R (.slice Q xs.length C)) (M := fun s' => Wo _ _ _ _ _ s' _) fun s1 r1 n1 k1 => ?_
 have w1 : Wf s1 := k1.wf w0
 have gd : good (some ⟨s.nx, 0, none⟩) := good_b
 have lr := r1.all (n := 68) (rc_len hP hR) (by decide)
 refine run1 ?_
 refine Wo.call rfl (Xc.call ok26 rfl) rfl ((jmay_ok w1 (hT.kpN w0 (k1.mono fun _ h => absurd h id)) hP hR (h.kn w0 k1)).mono ?_)
 rintro v s2 ⟨rfl, k2⟩
 rw [decide_eq_false hm]
 refine run1 ?_
 exact Lv.ret rfl ⟨rfl, k1.call k2⟩
theorem jwrite_no {k c q : Int} {P R : List Nat} {Q : Option Addr} {xs : List Ch} {C b : Nat} (w0 : Wf s) (hT : TabAt s) (hP : P.length = 32) (hR : R.length = 32) (h : RcOk s Q xs) (hm : ¬ mayR k c q xs) :
  Cl B (.call 10 [.pointer (some ⟨b, 0, none⟩), .agg ⟨rcV k c q P R (.slice Q xs.length C)⟩]) s fun v s' => v = .tuple ⟨[.slice none 0 0, hsh (List.replicate 32 0), nI 2]⟩ ∧ Kn s s' := by
 refine Cl.enter Tryz.f10 fn10 rfl rfl rfl ?_
 refine run1 ?_
 obtain ⟨z, hz⟩ : ∃ z : List Value, z = (List.replicate 32 0).map nB := ⟨_, rfl⟩
 obtain ⟨s2, bz, f1, f2, hb, r2, z2, n2, k2⟩ := two_mk (cs := rcV k c q P R (.slice Q xs.length C)) (ds := z) w0
 rw [show mkRow (mkRow s _) _ = s2 from (by rw [← f1, hz]; rfl), show (mkRow s _).nx = bz from f2]
 have w2 : Wf s2 := k2.wf w0
 have gd : good (some ⟨s.nx, 0, none⟩) := good_b
 have lr := r2.all (n := 68) (rc_len hP hR) (by decide)
 refine Wo.val rfl (Xv.pEq rfl rfl rfl) rfl (run1 ?_)
 refine Wo.call rfl (Xc.call ok9 rfl) rfl ((jbody_no w2 (hT.kpN w0 (k2.mono fun _ h => absurd h id)) hP hR (h.kn w0 k2) hm).mono ?_)
 rintro v s3 ⟨rfl, k3⟩
 refine run1 ?_
 refine Wo.val rfl (Xv.buildA (cs := (List.replicate 32 0).map nB) rfl rfl rfl) rfl ?_
 rw [← hz]
 have z3 := z2.kp w2 k3 id
 have hzl : z.length = 32 := by rw [hz]; rfl
 have ho : ∀ v ∈ z, one v = true := by rw [hz]; exact one_nB
 refine run1 ?_
 refine Wo.st rfl rfl rfl rfl rfl rfl hzl ho z3 (by rw [hzl]; decide) fun s4 r4 n4 k4 => ?_
 rw [lov_all rfl] at r4
 refine run1 ?_
 have hcl := cell_at (B := B) (t := 23) (n := 32) (k := .ar 32 5) rfl rfl r4 hzl rfl
 refine Lv.ret (vs := [.slice none 0 0, .agg ⟨z⟩, nI 2]) ?_ ⟨by rw [hz]; rfl, (k2.call k3).app k4 (by omega)⟩
 show (match some (Value.slice none 0 0), (match cell1 B.P (.pointer (some ⟨bz, 0, none⟩)) 23 s4, some [nI 2] with | some v, some vs => some (v :: vs) | _, _ => none) with | some v, some vs => some (v :: vs) | _, _ => none) = _
 rw [hcl]
open Go Go.Ev Go.Sy
set_option maxRecDepth 100000
variable {s : St}
def FmK (s : St) (C : Nat → Prop) (d : Nat) (cs : List Value) (F : List Nat) : Prop := ∀ s', Kp (fun c => C c ∨ s.nx ≤ c) s s' → Fm s' d cs F
theorem FmK.step {t : St} {C C' : Nat → Prop} {d : Nat} {cs : List Value} {F : List Nat} (h : FmK s C d cs F) (k : Kp (fun c => C c ∨ s.nx ≤ c) s t) (hg : ∀ c, C' c → C c ∨ s.nx ≤ c) : FmK t C' d cs F := fun s' k' => h s' (k.trans (k'.mono fun c hc => by
 have := k.le
 rcases hc with hc | hc
 ·exact hg c hc
 ·exact .inr (by omega)))
theorem fm_str {C : Nat → Prop} {d : Nat} {q : Option Addr} {c γ : Nat} {A : List Nat} (w : Wf s) (h : Sl s q (A.map nB) γ) (hg : ¬ C γ) (hn : γ < s.nx) (hl : A.length < 2 ^ 40) : FmK s C (d + 1) [.bool false, .slice q A.length c, .slice none 0 0] (fS A) := fun s' k =>
 .inl ⟨q, c, A, none, 0, rfl, (h.kp w k (fun h => h.elim hg (by omega))).at, hl, rfl⟩
theorem fm_lst {C : Nat → Prop} {d n : Nat} {q : Option Addr} {c γ : Nat} {css : List (List Value)} {Fs : List (List Nat)} (w : Wf s) (h : Sl s q css.flatten γ) (hg : ¬ C γ) (hn : γ < s.nx) (hN : n = Fs.length) (hl : css.length = Fs.length) (hf : Fs.length < 2 ^ 40) (h3 : ∀ x ∈ css, x.length = 3)
  (hi : ∀ (i : Nat) (x : List Value) (G : List Nat), css[i]? = some x → Fs[i]? = some G → FmK s C d x G) : FmK s C (d + 1) [.bool true, .slice none 0 0, .slice q n c] (fL Fs.flatten) := fun s' k => by
 subst hN
 exact .inr ⟨q, c, none, 0, css, Fs, rfl, (h.kp w k (fun h => h.elim hg (by omega))).at, hl, hf, h3, fun i x G hx hG => hi i x G hx hG s' k, rfl⟩
structure Ci (s : St) (xs : List Ch) (b2 b3 i : Nat) (t : St) (q : Option Addr) (c γ : Nat) (css : List (List Value)) : Prop where
 r2 : Rw t b2 z3 b2
 r3 : Rw t b3 [.bool true, .slice none 0 0, .slice q i c] b3
 kn : Kn s t
 len : css.length = i
 l3 : ∀ x ∈ css, x.length = 3
 gw : Gw t q i c 3 css.flatten γ
 st : (i = 0 ∧ q = none) ∨ (s.nx ≤ γ ∧ γ < t.nx ∧ γ ≠ b2 ∧ γ ≠ b3)
 it : ∀ (j : Nat) (y : List Value) (x : Ch), css[j]? = some y → xs[j]? = some x → FmK t (fun c => c = γ ∨ c = b2 ∨ c = b3) 2 y (chf x)
set_option maxHeartbeats 1600000 in
theorem chg_ok {Q : Option Addr} {xs : List Ch} {C : Nat} (w0 : Wf s) (h : RcOk s Q xs) (hm : ∀ x ∈ xs, chM x) (hx32 : xs.length ≤ 32) :
  Cl B (.call 31 [.slice Q xs.length C]) s fun v s' => ∃ q c, v = .agg ⟨[.bool true, .slice none 0 0, .slice q xs.length c]⟩ ∧ Fm s' 3 [.bool true, .slice none 0 0, .slice q xs.length c] (fL (xs.flatMap chf)) ∧ Kn s s' := by
 refine Cl.enter Tryz.f31 fn31 rfl rfl rfl ?_
 refine run1 ?_
 refine mk_gen (cs := z3) (M := fun s' => Wo _ _ _ _ _ s' _) fun s1 r1 n1 k1 => ?_
 have w1 : Wf s1 := k1.wf w0
 refine Wo.call rfl (Xc.call ok28 rfl) rfl ((listOf_ok w1).mono ?_)
 rintro v s2 ⟨rfl, k2⟩
 have w2 : Wf s2 := k2.wf w1
 have e2 := k2.le
 refine run1 ?_
 refine mk_gen (cs := z3) (M := fun s' => Wo _ _ _ _ _ s' _) fun s3 r3 n3 k3 => ?_
 have w3 : Wf s3 := k3.wf w2
 refine Wo.st rfl rfl rfl rfl rfl rfl rfl (by intro v hv; simp at hv; rcases hv with rfl | rfl | rfl <;> rfl) r3 (by decide) fun s4 r4 n4 k4 => ?_
 have r4' : Rw s4 s2.nx [.bool true, .slice none 0 0, .slice none 0 0] s2.nx := r4
 have k04 : Kn s s4 := (k1.call (k2.call k3)).app k4 (by omega)
 have w4 : Wf s4 := k04.wf w0
 have rr2 : Rw s4 s.nx z3 s.nx := (((r1.kp w1 k2 id).kp w2 k3 id)).kp w3 k4 (by omega)
 obtain ⟨b2, hb2⟩ : ∃ b, b = s.nx := ⟨_, rfl⟩
 obtain ⟨b3, hb3⟩ : ∃ b, b = s2.nx := ⟨_, rfl⟩
 rw [← hb2] at rr2 ⊢
 rw [← hb3] at r4' ⊢
 refine run1 ?_
 refine W.loop (α := Nat × St) (fun a => [(2, .pointer (some ⟨b2, 0, none⟩)), (3, .pointer (some ⟨b3, 0, none⟩)), (8, .slice Q xs.length C), (9, nI xs.length), (10, nI a.1)]) (fun _ => []) (fun a => a.2)
  (fun a => a.1 ≤ xs.length ∧ ∃ q c γ css, Ci s xs b2 b3 a.1 a.2 q c γ css) (fun a => xs.length - a.1) (0, s4) ⟨Nat.zero_le _, none, 0, 0, [], rr2, r4', k04, rfl, fun x hx => (List.not_mem_nil hx).elim, .nil, .inl ⟨rfl, rfl⟩, fun j y x hy => by simp at hy⟩ (.cons rfl (.cons rfl (.cons rfl (.cons rfl (.cons rfl .nil))))) rfl rfl (by show xs.length - 0 < _; omega) ?_
 rintro ⟨i, t⟩ ⟨i1, q, c, γ, css, I⟩
 simp only at i1 I
 dsimp only
 have wt : Wf t := I.kn.wf w0
 have et := I.kn.le
 by_cases hi : i < xs.length
 ·have hok := h.ok _ (List.getElem_mem hi)
  have hch := hm _ (List.getElem_mem hi)
  obtain ⟨gQ, lx⟩ := (h.kn w0 I.kn).kid hi
  obtain ⟨x, ex⟩ : ∃ x, x = xs[i] := ⟨_, rfl⟩
  rw [← ex] at hok hch lx
  have hone := hok.one
  obtain ⟨⟨qk, ck, ek, bk1, bk2⟩, ⟨qv, cv, ev1, bv1, bv2⟩, _, _⟩ := hok
  rw [chc, ek, ev1] at lx hone
  have hk32 := hch.1
  have hv256 := hch.2.1
  refine run1 ?_
  refine mk_gen (cs := [.slice none 0 0, .slice none 0 0, .bool false]) (M := fun s' => Wo _ _ _ _ _ s' _) fun t1 p1 m1 g1 => ?_
  have wt1 : Wf t1 := g1.wf wt
  refine Wo.st rfl rfl rfl rfl rfl rfl rfl hone p1 (by decide) fun t2 p2 m2 g2 => ?_
  have p2' : Rw t2 t.nx [.slice qk x.k.length ck, .slice qv x.v.length cv, .bool x.g] t.nx := p2
  have kt2 : Kn t t2 := g1.app g2 (Nat.le_refl _)
  have wt2 : Wf t2 := kt2.wf wt
  obtain ⟨b5, hb5⟩ : ∃ b, b = t.nx := ⟨_, rfl⟩
  rw [← hb5] at p2' ⊢
  have g5 : good (some ⟨b5, 0, none⟩) := good_b
  have l0 : ldq t2 (qadd (some ⟨b5, 0, none⟩) 0) = some (.slice qk x.k.length ck) := p2'.f1 rfl
  refine run1 ?_
  refine Wo.call rfl (Xc.call ok30 rfl) rfl ((stringItem_ok wt2).mono ?_)
  rintro v t3 ⟨rfl, g3⟩
  have wt3 : Wf t3 := g3.wf wt2
  refine run1 ?_
  refine mk_gen (cs := [.bool false, .slice qk x.k.length ck, .slice none 0 0]) (M := fun s' => Wo _ _ _ _ _ s' _) fun t4 p4 m4 g4 => ?_
  have wt4 : Wf t4 := g4.wf wt3
  refine Wo.call rfl (Xc.call ok28 rfl) rfl ((listOf_ok wt4).mono ?_)
  rintro v t5 ⟨rfl, h5⟩
  have wt5 : Wf t5 := h5.wf wt4
  obtain ⟨bl, hbl⟩ : ∃ b, b = t3.nx := ⟨_, rfl⟩
  rw [← hbl] at p4 ⊢
  refine run1 ?_
  refine mk_gen (cs := z3) (M := fun s' => Wo _ _ _ _ _ s' _) fun t6 p6 m6 g6 => ?_
  have wt6 : Wf t6 := g6.wf wt5
  refine Wo.st rfl rfl rfl rfl rfl rfl rfl (by intro v hv; simp at hv; rcases hv with rfl | rfl | rfl <;> rfl) p6 (by decide) fun t7 p7 m7 g7 => ?_
  have p7' : Rw t7 t5.nx [.bool true, .slice none 0 0, .slice (some ⟨bl, 0, none⟩) 1 (sure 1)] t5.nx := p7
  obtain ⟨b6, hb6⟩ : ∃ b, b = t5.nx := ⟨_, rfl⟩
  rw [← hb6] at p7' ⊢
  have e3 := g3.le
  have e5 := h5.le
  have ek2 := kt2.le
  have K27 : Kn t2 t7 := (g3.call (g4.call (h5.call g6))).app g7 (by omega)
  have wt7 : Wf t7 := K27.wf wt2
  have pl7 : Rw t7 bl [.bool false, .slice qk x.k.length ck, .slice none 0 0] bl := ((p4.kp wt4 h5 id).kp wt5 g6 id).kp wt6 g7 (by omega)
  have p57 : Rw t7 b5 [.slice qk x.k.length ck, .slice qv x.v.length cv, .bool x.g] b5 := p2'.kp wt2 K27 id
  have g6' : good (some ⟨b6, 0, none⟩) := good_b
  have lg : ldq t7 (qadd (some ⟨b5, 0, none⟩) 2) = some (.bool x.g) := p57.f1 rfl
  have Kt7 : Kn t t7 := kt2.call K27
  have K07 : Kn s t7 := I.kn.call Kt7
  have hnx7 : t7.nx = t5.nx + 1 := by omega
  refine run1 ?_
  refine W.meet (α := St × (Option Addr × Nat × Nat)) (fun a => [(2, .pointer (some ⟨b2, 0, none⟩)), (3, .pointer (some ⟨b3, 0, none⟩)), (8, .slice Q xs.length C), (9, nI xs.length), (10, nI i), (6, .pointer (some ⟨b6, 0, none⟩))]) (fun a => a.1)
   (fun a => Kn t a.1 ∧ t7.nx ≤ a.1.nx ∧ Rw a.1 b5 [.slice qk x.k.length ck, .slice qv x.v.length cv, .bool x.g] b5 ∧ ∃ n css', Rw a.1 b6 [.bool true, .slice none 0 0, .slice a.2.1 n a.2.2.1] b6 ∧ Sl a.1 a.2.1 css'.flatten a.2.2.2 ∧ t.nx < a.2.2.2 ∧ a.2.2.2 < a.1.nx ∧ a.2.2.2 ≠ b5 ∧ a.2.2.2 ≠ b6 ∧
    ((x.g = true ∧ n = 1 ∧ css' = [[.bool false, .slice qk x.k.length ck, .slice none 0 0]]) ∨ (x.g = false ∧ n = 2 ∧ css' = [[.bool false, .slice qk x.k.length ck, .slice none 0 0], [.bool false, .slice qv x.v.length cv, .slice none 0 0]]))) ?_ ?_
  ·cases hg : x.g with
   | true =>
    rw [hg] at lg
    refine run1 ?_
    refine meet.n (t7, some ⟨bl, 0, none⟩, sure 1, bl) ⟨Kt7, Nat.le_refl _, by rw [← hg]; exact p57, 1, [[.bool false, .slice qk x.k.length ck, .slice none 0 0]], p7', (pl7.sl (o := 0) (n := 3) (Nat.le_refl _)), by show t.nx < bl; omega, by show bl < t7.nx; omega, by show bl ≠ b5; omega, by show bl ≠ b6; omega, .inl ⟨rfl, rfl, rfl⟩⟩ (.cons rfl (.cons rfl (.cons rfl (.cons rfl (.cons rfl (.cons rfl .nil)))))) rfl
   | false =>
    rw [hg] at lg p57
    have lv : ldq t7 (qadd (some ⟨b5, 0, none⟩) 1) = some (.slice qv x.v.length cv) := p57.f1 rfl
    refine run1 ?_
    refine W.dr [(2, .none, 0), (3, .reads, 4), (4, .acts, 12), (0, .none, 0), (1, .reads, 1), (5, .makes, 28), (6, .acts, 63), (7, .none, 127), (8, .acts, 255)] (by kernel_rfl) rfl (run1 ?_)
    refine Wd.call rfl (Xc.call ok30 rfl) rfl ((stringItem_ok wt7).mono ?_)
    rintro v t8 ⟨rfl, g8⟩
    refine ⟨g8.le, ?_⟩
    have wt8 : Wf t8 := g8.wf wt7
    have e8 := g8.le
    have l6' : ldq t7 (qadd (some ⟨b6, 0, none⟩) 2) = some (.slice (some ⟨bl, 0, none⟩) 1 (sure 1)) := p7'.f1 rfl
    have l6 : ldq t8 (qadd (some ⟨b6, 0, none⟩) 2) = some (.slice (some ⟨bl, 0, none⟩) 1 (sure 1)) := (p7'.kp wt7 g8 id).f1 rfl
    refine run1 ?_
    refine mk_gen (cs := [.bool false, .slice qv x.v.length cv, .slice none 0 0]) (M := fun s' => Wd _ _ _ _ _ _ s' _) fun t9 p9 m9 g9 => ?_
    have wt9 : Wf t9 := g9.wf wt8
    have K79 : Kn t7 t9 := g8.call g9
    refine Wd.app rfl rfl rfl rfl rfl rfl rfl rfl rfl wt9 ((pl7.kp wt7 K79 id).gw rfl) rfl (cells_at (k := 1) (size := 3) p9.ats rfl (by decide)) rfl (by intro v hv; simp at hv; rcases hv with rfl | rfl | rfl <;> rfl) rfl (by decide) (by decide) ?_
    intro qa ca γa ta a1 a2 a3
    have wta : Wf ta := a2.wf wt9
    have ea := a2.le
    have pa6 := (p7'.kp wt7 K79 id).kp wt9 a2 (by omega)
    refine run1 ?_
    refine Wd.st rfl rfl rfl rfl rfl rfl rfl (by intro v hv; rw [List.mem_singleton] at hv; rw [hv]; rfl) pa6 (show 0 + 2 + 1 ≤ 3 by decide) fun tb pb mb gb => ?_
    have pb' : Rw tb b6 [.bool true, .slice none 0 0, .slice qa 2 ca] b6 := pb
    have hγa : t.nx < γa ∧ γa < ta.nx ∧ γa ≠ b5 ∧ γa ≠ b6 := by
     have := a1.ltq wta (by
      rintro rfl
      rcases a1.at' with ⟨_, h, _⟩ | ⟨_, _, h, _⟩ <;> cases h)
     rcases a3 with h | ⟨h, _⟩ <;> omega
    refine run1 ?_
    refine meet.n (tb, qa, ca, γa) ⟨?_, ?_, ?_, 2, [[.bool false, .slice qk x.k.length ck, .slice none 0 0], [.bool false, .slice qv x.v.length cv, .slice none 0 0]], pb', (a1.sl.kp wta gb (by omega)), hγa.1, by show γa < tb.nx; omega, hγa.2.2.1, hγa.2.2.2, .inr ⟨rfl, rfl, rfl⟩⟩ (.cons rfl (.cons rfl (.cons rfl (.cons rfl (.cons rfl (.cons rfl .nil)))))) rfl
    ·exact ((Kt7.call K79).app a2 (by omega)).app gb (by omega)
    ·show t7.nx ≤ tb.nx; omega
    ·exact ((p57.kp wt7 K79 id).kp wt9 a2 (by omega)).kp wta gb (by omega)
  ·rintro ⟨t8, qa, ca, γa⟩ ⟨kt8, n78, p58, n, css', p68, sl8, hγ1, hγ2, hγ3, hγ4, hcase⟩
   simp only at kt8 n78 p58 p68 sl8 hγ1 hγ2 hγ3 hγ4
   dsimp only
   have wt8 : Wf t8 := kt8.wf wt
   have k08 : Kn s t8 := I.kn.call kt8
   have e8 := kt8.le
   have r38 := I.r3.kp wt kt8 id
   have r28 := I.r2.kp wt kt8 id
   have g3' : good (some ⟨b3, 0, none⟩) := good_b
   have l32 : ldq t8 (qadd (some ⟨b3, 0, none⟩) 2) = some (.slice q i c) := r38.f1 rfl
   have l6 := p68.all (n := 3) rfl (by decide)
   refine run1 ?_
   refine mk_gen (cs := [.bool true, .slice none 0 0, .slice qa n ca]) (M := fun s' => Wo _ _ _ _ _ s' _) fun t9 p9 m9 g9 => ?_
   have wt9 : Wf t9 := g9.wf wt8
   have kt9 : Kn t t9 := kt8.call g9
   have e9 := g9.le
   have hnx7' : t7.nx ≤ t8.nx := n78
   obtain ⟨γ0, hgw, hγn, hγs, hγ2', hγ3', hγ4', hγ6, hit⟩ : ∃ γ0, Gw t9 q i c 3 css.flatten γ0 ∧ γ0 < t8.nx ∧ s.nx ≤ γ0 ∧ γ0 ≠ b2 ∧ γ0 ≠ b3 ∧ γ0 ≠ γa ∧ γ0 ≠ b6 ∧ ∀ (j : Nat) (y : List Value) (x : Ch), css[j]? = some y → xs[j]? = some x → FmK t9 (fun c => c = γ0 ∨ c = b2 ∨ c = b3) 2 y (chf x) := by
    rcases I.st with ⟨rfl, rfl⟩ | ⟨c1, c2, c3, c4⟩
    ·have hb2t := (I.r2.lt wt).1
     have hb3t := (I.r3.lt wt).1
     have hcs : css = [] := List.eq_nil_of_length_eq_zero I.len
     subst hcs
     have hc0 : c = 0 := by
      rcases I.gw.at' with ⟨_, _, h⟩ | ⟨_, _, h, _⟩
      ·exact h
      ·cases h
     subst hc0
     exact ⟨b5, .nil, by omega, by omega, by omega, by omega, by omega, by omega, fun j y x hy => by simp at hy⟩
    ·exact ⟨γ, I.gw.kp wt kt9 id, by omega, c1, c3, c4, by omega, by omega, fun j y x hy hx => (I.it j y x hy hx).step (kt9.mono fun _ h => absurd h id) fun c hc => .inl hc⟩
   refine Wo.app rfl rfl rfl rfl rfl rfl rfl rfl rfl wt9 hgw rfl (cells_at (k := 1) (size := 3) p9.ats rfl (by decide)) rfl (by intro v hv; simp at hv; rcases hv with rfl | rfl | rfl <;> rfl) rfl (by omega) (by omega) ?_
   intro qn cn γn ta a1 a2 a3
   have wta : Wf ta := a2.wf wt9
   have ea := a2.le
   have ra3 := (r38.kp wt8 g9 id).kp wt9 a2 (fun h => hγ3' h.symm)
   have ra2 := (r28.kp wt8 g9 id).kp wt9 a2 (fun h => hγ2' h.symm)
   refine run1 ?_
   refine Wo.st rfl rfl rfl rfl rfl rfl rfl (by intro v hv; rw [List.mem_singleton] at hv; rw [hv]; rfl) ra3 (show 0 + 2 + 1 ≤ 3 by decide) fun tb pb mb gb => ?_
   have pb' : Rw tb b3 [.bool true, .slice none 0 0, .slice qn (i + 1) cn] b3 := pb
   have hb3s := (I.r3.lt wt).1
   have hb2s := (I.r2.lt wt).1
   have hγa : γn < ta.nx := by
    refine a1.ltq wta ?_
    rintro rfl
    rcases a1.at' with ⟨_, h, _⟩ | ⟨_, _, h, _⟩ <;> cases h
   have hγn' : γn = γ0 ∨ t9.nx ≤ γn := by rcases a3 with h | ⟨h, _⟩ <;> omega
   have hne3 : b3 ≠ γn := by omega
   refine run1 ?_
   refine rnd.n (i + 1, tb) ⟨hi, qn, cn, γn, css ++ [[.bool true, .slice none 0 0, .slice qa n ca]], ?_⟩ (by show xs.length - (i + 1) < xs.length - i; omega) (.cons rfl (.cons rfl (.cons rfl (.cons rfl (.cons rfl .nil))))) rfl rfl
   have h23 : b2 ≠ b3 := by omega
   have up : ∀ {y : List Value} {F : List Nat}, FmK t9 (fun c => c = γ0 ∨ c = b2 ∨ c = b3) 2 y F → FmK tb (fun c => c = γn ∨ c = b2 ∨ c = b3) 2 y F := fun hf =>
    (hf.step (C' := fun c => c = γn ∨ c = b2 ∨ c = b3) (a2.mono fun c h => .inl (.inl h)) fun c hc => by rcases hc with rfl | hc; (· rcases hγn' with h | h; (· exact .inl (.inl h)); exact .inr h); exact .inl (.inr hc)).step (gb.mono fun c h => .inl (.inr (.inr h))) fun c hc => .inl hc
   refine ⟨ra2.kp wta gb h23, pb', ((I.kn.call kt9).app a2 hγs).app gb (by omega), by rw [List.length_append, I.len]; rfl, fun y hy => ?_, ?_, .inr ⟨by omega, by show γn < tb.nx; omega, by omega, by omega⟩, fun j y x' hy hx' => ?_⟩
   ·rcases List.mem_append.1 hy with hy | hy
    ·exact I.l3 y hy
    ·rw [List.mem_singleton] at hy; rw [hy]; rfl
   ·rw [List.flatten_append]
    exact a1.kp wta gb (fun h => hne3 h.symm)
   ·by_cases hj : j < i
    ·rw [List.getElem?_append_left (by rw [I.len]; exact hj)] at hy
     exact up (hit j y x' hy hx')
    ·have hj' : j = i := by
      have := (List.getElem?_eq_some_iff.1 hy).1
      rw [List.length_append, I.len] at this
      have h1 : ([[.bool true, .slice none 0 0, .slice qa n ca]] : List (List Value)).length = 1 := rfl
      omega
     subst hj'
     rw [List.getElem?_append_right (by rw [I.len]; exact Nat.le_refl _), I.len, Nat.sub_self] at hy
     obtain rfl : [.bool true, .slice none 0 0, .slice qa n ca] = y := Option.some.inj hy
     obtain rfl : x = x' := by rw [List.getElem?_eq_getElem hi] at hx'; exact ex.trans (Option.some.inj hx')
     refine up ?_
     obtain ⟨γk, sk, lk'⟩ := bk1.sl
     obtain ⟨γv, sv, lv'⟩ := bv1.sl
     have lk0 := lk' w0
     have lv0 := lv' w0
     have fk : FmK t8 (fun c => c = γ0 ∨ c = b2 ∨ c = b3) 1 [.bool false, .slice qk x.k.length ck, .slice none 0 0] (fS x.k) := fm_str wt8 (sk.kp w0 k08 id) (by omega) (by omega) (by omega)
     have fv : FmK t8 (fun c => c = γ0 ∨ c = b2 ∨ c = b3) 1 [.bool false, .slice qv x.v.length cv, .slice none 0 0] (fS x.v) := fm_str wt8 (sv.kp w0 k08 id) (by omega) (by omega) (by omega)
     refine FmK.step (s := t8) (C := fun c => c = γ0 ∨ c = b2 ∨ c = b3) ?_ (g9.mono fun _ h => absurd h id) fun c hc => .inl hc
     rcases hcase with ⟨hg, rfl, rfl⟩ | ⟨hg, rfl, rfl⟩
     ·have := fm_lst (C := fun c => c = γ0 ∨ c = b2 ∨ c = b3) (c := ca) (Fs := [fS x.k]) wt8 sl8 (by omega) hγ2 rfl rfl (show 1 < 2 ^ 40 by decide) (fun y hy => by rw [List.mem_singleton] at hy; rw [hy]; rfl) (fun j y G hy hG => by
       cases j with
       | zero => cases hy; cases hG; exact fk
       | succ j => cases hy)
      rw [show [fS x.k].flatten = chi x by simp [chi, hg]] at this
      exact this
     ·have := fm_lst (C := fun c => c = γ0 ∨ c = b2 ∨ c = b3) (c := ca) (Fs := [fS x.k, fS x.v]) wt8 sl8 (by omega) hγ2 rfl rfl (show 2 < 2 ^ 40 by decide) (fun y hy => by simp at hy; rcases hy with rfl | rfl <;> rfl) (fun j y G hy hG => by
       match j with
       | 0 => cases hy; cases hG; exact fk
       | 1 => cases hy; cases hG; exact fv
       | j + 2 => cases hy)
      rw [show [fS x.k, fS x.v].flatten = chi x by simp [chi, hg]] at this
      exact this
 ·have hie : i = xs.length := by omega
  subst hie
  have l3 := I.r3.all (n := 3) rfl (by decide)
  refine run1 ?_
  refine Wo.st rfl rfl rfl rfl rfl rfl rfl (by intro v hv; simp at hv; rcases hv with rfl | rfl | rfl <;> rfl) I.r2 (by decide) fun t1 p1 m1 g1 => ?_
  have p1' : Rw t1 b2 [.bool true, .slice none 0 0, .slice q xs.length c] b2 := p1
  refine run1 ?_
  have hcl := cell_at (B := B) (t := 69) rfl rfl p1' rfl rfl
  have hb3t := (I.r3.lt wt).1
  obtain ⟨γ', sl', hn1, hn2⟩ : ∃ γ', Sl t q css.flatten γ' ∧ γ' ≠ b2 ∧ γ' < t.nx := by
   rcases I.st with ⟨h0, rfl⟩ | ⟨c1, c2, c3, c4⟩
   ·have hcs : css = [] := List.eq_nil_of_length_eq_zero (I.len.trans h0)
    subst hcs
    exact ⟨b3, .inl ⟨rfl, .inl rfl⟩, by omega, hb3t⟩
   ·exact ⟨γ, I.gw.sl, c3, c2⟩
  have fin := fm_lst (C := fun c => c = b2) (d := 2) (c := c) (Fs := xs.map chf) (n := xs.length) wt sl' hn1 hn2 (by rw [List.length_map]) (by rw [List.length_map, I.len]) (by rw [List.length_map]; omega) I.l3 (fun j y G hy hG => by
   rw [List.getElem?_map] at hG
   cases hx : xs[j]? with
   | none => rw [hx] at hG; cases hG
   | some x =>
    rw [hx] at hG
    cases hG
    exact (I.it j y x hy hx).step .refl fun c hc => .inl (.inr (.inl hc)))
  rw [show (xs.map chf).flatten = xs.flatMap chf from (List.flatMap_def ..).symm] at fin
  refine Lv.ret (vs := [.agg ⟨[.bool true, .slice none 0 0, .slice q xs.length c]⟩]) ?_ ⟨q, c, rfl, fin t1 (g1.mono fun c h => .inl h), I.kn.app g1 (by omega)⟩
  show (match cell1 B.P (.pointer (some ⟨b2, 0, none⟩)) 69 t1, some [] with | some v, some vs => some (v :: vs) | _, _ => none) = _
  rw [hcl]
open Go Go.Ev Go.Sy Go.RowKit
set_option maxRecDepth 100000
theorem hasT_mem : ∀ {l : List (Nat × List Value)} {s : St}, hasT s l = true → ∀ p ∈ l, readAt s p.1 0 p.2.length = some p.2 ∨ p.2 = []
 | [], _, _, p, hp => by cases hp
 | (g, t) :: r, s, h, p, hp => by
  have h' : (sameL (match readAt s g 0 t.length with | some cs => cs | none => []) t && hasT s r) = true := h
  simp only [Bool.and_eq_true] at h'
  rcases List.mem_cons.1 hp with rfl | hp
  ·have e := sameL_eq h'.1
   cases hr : readAt s g 0 t.length with
   | none => rw [hr] at e; exact .inr e.symm
   | some cs => rw [hr] at e; exact .inl (congrArg some e)
  ·exact hasT_mem h'.2 p hp
theorem fixK_ok {N : Nat} : HookOk N Tryz.prog fixK := by
 intro f g hf args args' s s' v E w h ha hx
 unfold fixK at hf
 cases h1 : Nat.beq f 6 with
 | false => rw [h1] at hf; exact Dg.hooks_ok hf h ha hx
 | true =>
  rw [h1] at hf
  cases hf
  obtain rfl := Nat.eq_of_beq_eq_true h1
  unfold fixH at hx
  split at hx
  case h_2 => cases hx
  cases hT : hasT s Dg.tabs with
  | false => rw [hT] at hx; cases hx
  | true =>
   rw [hT] at hx
   cases hx
   cases ha
   have ht : ∀ p ∈ Dg.tabs, p.1 < 1000 ∧ ∃ c t fr, w.heap[p.1]? = some (.cells c t fr) ∧ ∀ (i : Nat) (v : Value), p.2[i]? = some v → c[i]? = some v ∧ plain 1 v = true := fun p hp => by
    have hlt : p.1 < 1000 := (show ∀ p ∈ Dg.tabs, p.1 < 1000 by decide) p hp
    have hpl : ∀ v ∈ p.2, plain 1 v = true := fun v hv => List.all_eq_true.1 (List.all_eq_true.1 (show (Dg.tabs.all fun p => p.2.all (plain 1)) = true by kernel_rfl) p hp) v hv
    have hne : p.2 ≠ [] := fun e => by
     have : (Dg.tabs.all fun p => !p.2.isEmpty) = true := by kernel_rfl
     have := List.all_eq_true.1 this p hp
     rw [e] at this; cases this
    have hr := (hasT_mem hT p hp).resolve_right hne
    obtain ⟨t', j1, j2⟩ := readAt_cell Tryz.prog h.obs hr
    have e3 : t' = p.2 := VRs.plain_eq (p := plain 1) (fun v v' => plain_eq 1 v v') _ _ (List.all_eq_true.2 hpl) j1
    subst e3
    obtain ⟨i1, i2⟩ := h.base p.1 hlt
    rw [i1, i2] at j2
    have h0 : ∃ v0, p.2[0]? = some v0 := ⟨p.2[0]'(List.length_pos_iff.2 hne), List.getElem?_eq_getElem _⟩
    obtain ⟨v0, hv0⟩ := h0
    have hc0 := j2 0 v0 hv0
    unfold World.cell? at hc0
    split at hc0
    case h_2 => cases hc0
    rename_i c t fr hw
    refine ⟨hlt, c, t, fr, hw, fun i v hv => ⟨?_, hpl v (List.mem_of_getElem? hv)⟩⟩
    have hc := j2 i v hv
    unfold World.cell? at hc
    simp only at hw hc
    rw [hw] at hc
    simpa using hc
   refine (closed Dg.mixed Dg.hooks_ok ht whole).mono fun e w' ⟨he, hb⟩ => ⟨E, _, he, .bool _, stp_below h hb⟩
theorem TabAt.has {s : St} (h : TabAt s) : hasT s Dg.tabs = true := by
 have key : ∀ l : List (Nat × List Value), (∀ p ∈ l, At s (some ⟨p.1, 0, none⟩) p.2) → (l.all fun p => sameL p.2 p.2) = true → hasT s l = true := fun l => by
  induction l with
  | nil => intro _ _; rfl
  | cons p l ih =>
   intro h hs
   obtain ⟨g, t⟩ := p
   have hs' : (sameL t t && l.all fun p => sameL p.2 p.2) = true := hs
   simp only [Bool.and_eq_true] at hs'
   have h1 := h (g, t) List.mem_cons_self
   show (sameL (match readAt s g 0 t.length with | some cs => cs | none => []) t && hasT s l) = true
   rw [ih (fun q hq => h q (List.mem_cons_of_mem _ hq)) hs'.2, Bool.and_true]
   rcases h1 with ⟨_, h1⟩ | ⟨b, o, h1, h2⟩
   ·rcases h1 with h1 | ⟨_, _, _, h1⟩ <;> cases h1
   ·cases h1; rw [show readAt s g 0 t.length = some t from h2]; exact hs'.1
 exact key _ h (by kernel_rfl)
theorem fixed_ok {s : St} (h : TabAt s) : Cl B (.call 6 []) s fun v s' => v = .bool true ∧ s' = s :=
 Cl.hook (g := fixH) rfl (by show cond (hasT s Dg.tabs) _ _ = _; rw [h.has]; rfl) ⟨rfl, rfl⟩
end Go.Proofs.YteldpcbhfbgomaaGreatDoor
