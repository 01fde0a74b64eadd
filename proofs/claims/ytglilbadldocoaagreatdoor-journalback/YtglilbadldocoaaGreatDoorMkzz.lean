import Derived.Test.YtglilbadldocoaaGreatDoorRyzz
import Derived.Test.YtglilbadldocoaaGreatDoorWbzz
namespace Go.Sy
open Go Go.Ev
theorem Sl.same {s : St} {q : Option Addr} {cs : List Value} {γ δ : Nat} (h : Sl s q cs γ) (k : Sl s q cs δ) (h0 : cs ≠ []) : γ = δ := by
 rcases h with ⟨e, _⟩ | ⟨b', o, ob, l', e, k1, k2, k3, _⟩
 ·exact absurd e h0
 ·rcases k with ⟨e', _⟩ | ⟨b2, o2, ob2, l2, e', k1', k2', k3', _⟩
  ·exact absurd e' h0
  ·rw [e] at e'; cases e'
   rw [k1] at k1'; cases k1'
   rw [← k3, ← k3']
end Go.Sy
namespace Go.Proofs.YtglilbadldocoaaGreatDoor
open Go Go.Ev Go.Sy
set_option maxRecDepth 100000
variable {s s0 : St} {p γ δ n c m N d : Nat} {q : Option Addr} {A F G : List Nat} {L : List Value} {nb cb r1 n1 r2 n2 r3 n3 : Nat} {S : List Nat}
set_option maxHeartbeats 1600000 in
theorem read_ex {b bp kk cn sq mm : Nat} {l D C P R : List Nat} {xs0 : List Ch} {K : List Nat → List (List Nat)} {CC : Nat → Prop} (w0 : Wf s) (h : At s (some ⟨bp, 0, none⟩) (l.map nB)) (hb : ∀ x ∈ l, x < 256) (hc : Rm c l.length 1) (hl : l.length ≤ 1048576) (hlD : l = D ++ C) (hD0 : 0 < D.length) (hDA : D = bdy kk cn sq P R xs0) (hP : P.length = 32) (hR : R.length = 32) (hPb : ∀ x ∈ P, x < 256) (hRb : ∀ x ∈ R, x < 256) (hm0 : mayR kk cn sq xs0)
  (hbk : Rw s b (bkT nb cb S (bl 0 r1 n1 r2 n2 r3 n3)) γ) (hNt : Nt s r2 K CC mm) (hr : r2 ≠ γ) (hCg : ¬ CC γ) (hmm : mm < 2 ^ 60) (hS : S.length = 32) (hSb : ∀ x ∈ S, x < 256) (hcb : cb ≤ 256) (hG : C = cutOf (hmc S D) cb) (hin : D ∈ K C) (hT : ∀ s', Kp (fun c => c = γ) s s' → TabAt s') (hqg : ∀ δ, Sl s (some ⟨bp, 0, none⟩) (D.map nB) δ → δ ≠ γ) :
  Cl B (.call 22 [.pointer (some ⟨b, 0, none⟩), .slice (some ⟨bp, 0, none⟩) l.length c]) s fun v s' => ∃ Q xs r, v = .tuple ⟨[.agg ⟨rcV kk cn sq P R (.slice Q xs.length r)⟩, hsh C, nI 0]⟩ ∧ (∀ t, Kp (fun c => c < s.nx ∨ s'.nx ≤ c) s' t → RcOk t Q xs) ∧ xs.map cv = xs0.map cv ∧ Rw s' b (bkT nb cb S (bl 0 r1 n1 r2 n2 r3 n3)) γ ∧ Kp (fun c => c = γ) s s' := by
 have hCl0 : C.length = 32 := by rw [hG]; exact ctN_length.trans hmc_length
 have hll : l.length = D.length + 32 := by rw [hlD, List.length_append, hCl0]
 have h32 : 32 < l.length := by omega
 have hD : D = l.take (l.length - 32) := by rw [hll, Nat.add_sub_cancel, hlD]; exact List.take_left.symm
 have hC : C = l.drop (l.length - 32) := by rw [hll, Nat.add_sub_cancel, hlD]; exact List.drop_left.symm
 have hTn : ∀ {t : St}, Kn s t → TabAt t := fun k => hT _ (k.w)
 have hgl := hbk.lt w0
 refine Cl.enter Tryz.f22 fn22 rfl rfl rfl ?_
 refine run1 ?_
 refine mk_gen (s := mkRow s rc0) (cs := (List.replicate 32 0).map nB) (M := fun s' => Wo _ _ _ _ _ s' _) fun s2 r5 n2 k2 => ?_
 have r4 : Rw s2 s.nx rc0 s.nx := mkRow_rw.kp (mkRow_wf w0) k2 id
 have k02 : Kn s s2 := mkRow_kn.call k2
 have r5 : Rw s2 (s.nx + 1) ((List.replicate 32 0).map nB) (s.nx + 1) := r5
 have n2 : s2.nx = s.nx + 1 + 1 := n2
 have w2 := k02.wf w0
 refine Wo.val rfl (Xv.pEq rfl rfl rfl) rfl (run1 ?_)
 have h1 : ¬ l.length < 32 := by omega
 refine run1 ?_
 have hDl : D.length = l.length - 32 := by rw [hD, List.length_take]; omega
 have hCl : C.length = 32 := by rw [hC, List.length_drop]; omega
 have hB2 := h.kn w0 k02
 have lC : ldn s2 (some ⟨bp, 0 + (l.length - 32) * 1, none⟩) 32 = some (C.map nB) := by
  have := hB2.ldn (i := l.length - 32) (n := 32) (by rw [List.length_map]; omega) (by decide)
  rw [← List.map_drop, ← hC, List.take_of_length_le (by rw [List.length_map, hCl]; decide)] at this
  rw [Nat.mul_one]; exact this
 refine W.dr [(0, .none, 0), (1, .none, 0), (2, .none, 3), (3, .none, 0), (4, .none, 0), (5, .none, 24), (6, .none, 56), (7, .reads, 120), (8, .makes, 0), (9, .none, 263), (10, .acts, 1023)] (by kernel_rfl) rfl (run1 ?_)
 refine Wd.slTo rfl rfl rfl rfl rfl rfl hc (by omega) fun c' hc' => ?_
 refine run1 ?_
 refine Wd.slFrom rfl rfl rfl rfl rfl rfl hc (Nat.le_refl _) (by omega) fun c'' => ?_
 refine Wd.val rfl (Xv.arr rfl rfl (by omega)) rfl (Nat.le_refl _) ?_
 refine Wd.read rfl (Xv.ldN rfl rfl rfl lC) rfl eqV_h ⟨Xv.ldN rfl rfl rfl lC, trivial⟩ (run1 ?_)
 refine mk_gen (cs := (List.replicate 32 0).map nB) (M := fun s' => Wd _ _ _ _ _ _ s' _) fun s3 r9 n3 k3 => ?_
 have w3 := k3.wf w2
 refine run1 ?_
 refine Wd.st rfl rfl rfl rfl rfl rfl (by rw [List.length_map, hCl]) one_nB r9 (by decide) fun s4 r9 n4 k4 => ?_
 rw [lov_all (by rw [List.length_map, hCl]; rfl)] at r9
 have w4 := k4.wf w3
 have K24 : Kn s2 s4 := k3.app k4 (Nat.le_refl _)
 have k04 : Kn s s4 := k02.call K24
 obtain ⟨b9, hb9⟩ : ∃ b, b = s2.nx := ⟨_, rfl⟩
 rw [← hb9] at r9 ⊢
 rw [← hDl]
 have hB4 : At s4 (some ⟨bp, 0, none⟩) (D.map nB) := by
  have := (h.kn w0 k04).take (n := l.length - 32) (by rw [List.length_map]; omega)
  rw [← List.map_take, ← hD] at this
  exact this
 have hDb : ∀ x ∈ D, x < 256 := fun x hx => hb x (List.mem_of_mem_take (hD ▸ hx))
 have hcD : Rm c' D.length 1 := ⟨by omega, by have := hc'.2.1; omega, hc'.2.2⟩
 have T4 : TabAt s4 := hTn k04
 refine run1 ?_
 refine Wo.call rfl (Xc.call ok43 rfl) rfl ((recordOf_ex w4 T4 hB4 hDb hcD (by omega) hDA hP hR hPb hRb hm0).mono ?_)
 rintro v s5 ⟨Q, xs, r, rfl, hrcK, hcv, k5⟩
 have w5 := k5.wf w4
 have k05 : Kn s s5 := k04.call k5
 have K25 : Kn s2 s5 := K24.call k5
 have e5 := K25.le
 obtain ⟨cs, hcsE⟩ : ∃ cs, cs = rcV (kk : Int) (cn : Int) (sq : Int) P R (.slice Q xs.length r) := ⟨_, rfl⟩
 have hcs : cs.length = 68 := by rw [hcsE]; exact rc_len hP hR
 have hone : ∀ v ∈ cs, one v = true := by rw [hcsE]; exact rc_one
 have hev : ∀ v ∈ cs, eqV 4 v v = true := by rw [hcsE]; exact rc_eqV
 rw [← hcsE]
 refine run1 ?_
 refine mkO (cs := rc0) fun s6 r10 n6 k6 => ?_
 have w6 := k6.wf w5
 refine Wo.st rfl rfl rfl rfl rfl rfl hcs hone r10 (by decide) fun s7 r10 n7 k7 => ?_
 rw [lov_all (by rw [hcs]; rfl)] at r10
 have w7 := k7.wf w6
 have K57 : Kn s5 s7 := k6.app k7 (Nat.le_refl _)
 have K27 : Kn s2 s7 := K25.call K57
 have k07 : Kn s s7 := k02.call K27
 have K47 : Kn s4 s7 := k5.call K57
 have e7 := K57.le
 have e27 := K27.le
 have e45 := k5.le
 have e24 := K24.le
 have l9 := (r9.kp w4 K47 id).all (n := 32) (by rw [List.length_map, hCl]) (by decide)
 refine run1 ?_
 refine Wo.call rfl (Xc.call ok44 rfl) rfl ((nacc_ok (m := mm) w7 (hbk.kp w0 k07 id) (hNt.kp w0 k07 id (fun _ _ h => h)) hr hCg hmm hS hSb (hB4.kn w4 K47) hDb ⟨hcD.2.1, fun _ h => hcD.2.2.resolve_left (by rw [h]; exact fun h => by cases h)⟩ (by omega) hcb hG hin (fun s' k => hT s' ((k07.w).trans k)) ?_).mono ?_)
 ·intro δ hδ
  obtain ⟨δ', d1, _⟩ := (show At s (some ⟨bp, 0, none⟩) (D.map nB) by have := h.take (n := l.length - 32) (by rw [List.length_map]; omega); rw [← List.map_take, ← hD] at this; exact this).sl
  have := hqg δ' d1
  rw [Sl.same (d1.kp w0 k07 id) hδ (by rw [ne_eq, List.map_eq_nil_iff]; exact fun e => by rw [e] at hD0; exact absurd hD0 (Nat.lt_irrefl _))] at this
  exact this
 rintro v s8 ⟨rfl, b8, k8⟩
 have w8 := k8.wf w7
 have l9' := ((r9.kp w4 K47 id).kp w7 k8 (by omega)).all (n := 32) (by rw [List.length_map, hCl]) (by decide)
 have l10 := (r10.kp w7 k8 (by omega)).all (n := 68) hcs (by decide)
 refine run1 ?_
 refine W.dr [(0, .reads, 0), (2, .acts, 1), (1, .reads, 0), (3, .acts, 7), (4, .none, 15)] (by kernel_rfl) rfl ?_
 refine Wd.read rfl (Xv.ldN rfl rfl rfl l10) rfl (eqV_agg hev) ⟨Xv.ldN rfl rfl rfl l10, trivial⟩ ?_
 refine Wd.st rfl rfl rfl rfl rfl rfl hcs hone ((r4.kp w2 K27 id).kp w7 k8 (by omega)) (by decide) fun ty py my gy => ?_
 rw [lov_all (by rw [hcs]; rfl)] at py
 have wy := gy.wf w8
 have l9y := (((r9.kp w4 K47 id).kp w7 k8 (by omega)).kp w8 gy (by omega)).all (n := 32) (by rw [List.length_map, hCl]) (by decide)
 refine Wd.read rfl (Xv.ldN rfl rfl rfl l9y) rfl eqV_h ⟨Xv.ldN rfl rfl rfl l9y, ⟨Xv.ldN rfl rfl rfl l9', trivial⟩⟩ ?_
 refine Wd.st rfl rfl rfl rfl rfl rfl (by rw [List.length_map, hCl]) one_nB (((r5.kp w2 K27 id).kp w7 k8 (by omega)).kp w8 gy (by omega)) (by decide) fun tz pz mz gz => ?_
 rw [lov_all (by rw [List.length_map, hCl]; rfl)] at pz
 have pz : Rw tz (s.nx + 1) (C.map nB) (s.nx + 1) := pz
 refine run1 ?_
 have e8 := k8.le
 have hcl := cell_at (B := B) (t := 35) rfl rfl (py.kp wy gz (by omega)) hcs rfl
 have hcl2 := cell_at (B := B) (t := 32) rfl rfl pz (by rw [List.length_map, hCl]) rfl
 have kz : Kp (fun c => c = s.nx ∨ c = s.nx + 1) s8 tz := (gy.mono fun c h => .inl h).trans (gz.mono fun c h => .inr h)
 refine Lv.ret (vs := [.agg ⟨cs⟩, hsh C, nI 0]) ?_ ⟨Q, xs, r, by rw [hcsE]; rfl, (fun t kt => hrcK t ?_), hcv, b8.kp w8 kz (by omega), ?_⟩
 ·show (match cell1 B.P (.pointer (some ⟨s.nx, 0, none⟩)) 35 tz, (match cell1 B.P (.pointer (some ⟨s.nx + 1, 0, none⟩)) 32 tz, some [nI 0] with | some v, some vs => some (v :: vs) | _, _ => none) with | some v, some vs => some (v :: vs) | _, _ => none) = _
  rw [hcl, hcl2]; rfl
 ·have ez := kz.le
  exact (((K57.w).trans (k8.mono fun c h => .inl (by omega))).trans (kz.mono fun c h => .inl (by omega))).trans (kt.mono fun c h => h.imp (fun h => by omega) (fun h => by omega))
 ·exact KpW ((k07.w).trans k8) kz (fun c h => by omega)
open Go Go.Ev Go.Sy
set_option maxRecDepth 100000
variable {s : St}
theorem BsV.kpQ {s0 s : St} {v : Value} {A : List Nat} (h : BsV s0 v A) (w : Wf s0) (k : Kp (fun c => s0.nx ≤ c) s0 s) : BsV s v A := by
 obtain ⟨q, c, h1, h2, h3⟩ := h
 exact ⟨q, c, h1, At.kpN h2 w k, h3⟩
theorem RcOk.kpQ {s0 s : St} {Q : Option Addr} {xs : List Ch} (h : RcOk s0 Q xs) (w : Wf s0) (k : Kp (fun c => s0.nx ≤ c) s0 s) : RcOk s Q xs :=
 ⟨At.kpN h.at' w k, fun x hx => ⟨BsV.kpQ (h.ok x hx).hk w k, BsV.kpQ (h.ok x hx).hv w k, (h.ok x hx).bk, (h.ok x hx).bv⟩, h.len⟩
structure Lmn (s00 : St) (nn : Nat) (s : St) (b2 b4 : Nat) (P R : List Nat) (X : Value) (i : Nat) (t : St) (q : Option Addr) (c γ : Nat) (ys : List Ch) : Prop where
 kn : Kn s t
 r2 : Rw t b2 (rcV 2 nn (1 + nn / 2 : Nat) P R X) b2
 r4 : Rw t b4 rc0 b4
 len : ys.length = i
 gw : Gw t q i c 3 (ys.map chc).flatten γ
 st : (i = 0 ∧ q = none) ∨ (s.nx ≤ γ ∧ γ < t.nx ∧ γ ≠ b2 ∧ γ ≠ b4)
 it : ∀ y ∈ ys, ChOk s00 y ∧ chM y
set_option maxHeartbeats 1600000 in
theorem made_ex {nn : Nat} {k c q : Int} {P R : List Nat} {Q : Option Addr} {xs : List Ch} {C : Nat} (w0 : Wf s) (hnn : 2 ≤ nn ∧ nn ≤ 40) (hP : P.length = 32) (hR : R.length = 32) {s00 : St} (w00 : Wf s00) (k00 : Kp (fun c => s00.nx ≤ c) s00 s) (h : RcOk s00 Q xs) (hs : ∀ x ∈ xs, SlOk x.kv x.k ∧ SlOk x.vv x.v) :
  Cl B (.call 6 [.agg ⟨rcV k c q P R (.slice Q xs.length C)⟩, nI nn]) s fun v s' => ∃ Q' ys C' γ, v = .agg ⟨rcV 2 nn (1 + nn / 2 : Nat) P R (.slice Q' ys.length C')⟩ ∧ Sl s' Q' (ys.map chc).flatten γ ∧ ((ys = [] ∧ Q' = none) ∨ (s.nx ≤ γ ∧ γ < s'.nx)) ∧ (∀ y ∈ ys, ChOk s00 y) ∧ mayR 2 nn (1 + nn / 2 : Nat) ys ∧ Kn s s' := by
 refine Cl.enter Tryz.f6 fn6 rfl rfl rfl ?_
 refine run1 ?_
 generalize hs1 : mkRow s (rcV k c q P R (.slice Q xs.length C)) = s1
 have r1 : Rw s1 s.nx (rcV k c q P R (.slice Q xs.length C)) s.nx := hs1 ▸ mkRow_rw
 have k1 : Kn s s1 := hs1 ▸ mkRow_kn
 have n1 : s1.nx = s.nx + 1 := hs1 ▸ rfl
 have w1 := k1.wf w0
 refine mk_gen (s := s1) (cs := rc0) (M := fun s' => Wo _ _ _ _ _ s' _) fun s2 r2 n2 k2 => ?_
 have w2 := k2.wf w1
 obtain ⟨b2, hb2⟩ : ∃ b, b = s.nx := ⟨_, rfl⟩
 obtain ⟨b4, hb4⟩ : ∃ b, b = s1.nx := ⟨_, rfl⟩
 rw [← hb2] at r1 ⊢
 rw [← hb4] at r2 ⊢
 have g2 : good (some ⟨b2, 0, none⟩) := good_b
 refine run1 ?_
 refine Wo.st rfl rfl rfl rfl rfl rfl rfl (one1 rfl) (r1.kp w1 k2 id) (by rw [rc_len hP hR]; decide) fun s3 p3 m3 g3 => ?_
 have p3 : Rw s3 b2 (rcV 2 c q P R (.slice Q xs.length C)) b2 := p3
 have w3 := g3.wf w2
 refine run1 ?_
 refine Wo.st rfl rfl rfl rfl rfl rfl rfl (one1 rfl) p3 (by rw [rc_len hP hR]; decide) fun s4 p4 m4 g4 => ?_
 have p4 : Rw s4 b2 (rcV 2 nn q P R (.slice Q xs.length C)) b2 := p4
 have w4 := g4.wf w3
 refine run1 ?_
 refine Wo.st rfl rfl rfl rfl rfl rfl rfl (one1 rfl) p4 (by rw [rc_len hP hR]; decide) fun s5 p5 m5 g5 => ?_
 have p5 : Rw s5 b2 (rcV 2 nn (1 + nn / 2 : Nat) P R (.slice Q xs.length C)) b2 := p5
 have w5 := g5.wf w4
 have k05 : Kn s s5 := (((k1.call k2).app g3 (by omega)).app g4 (by omega)).app g5 (by omega)
 have q4 : Rw s5 b4 rc0 b4 := ((r2.kp w2 g3 (by omega)).kp w3 g4 (by omega)).kp w4 g5 (by omega)
 obtain ⟨X, hX⟩ : ∃ X, X = Value.slice Q xs.length C := ⟨_, rfl⟩
 refine run1 ?_
 refine W.loop (α := Nat × Option Addr × Nat × St) (fun a => [(2, .pointer (some ⟨b2, 0, none⟩)), (4, .pointer (some ⟨b4, 0, none⟩)), (5, .slice a.2.1 a.1 a.2.2.1), (6, nI a.1)]) (fun _ => []) (fun a => a.2.2.2)
  (fun y => y.1 ≤ xs.length ∧ y.1 ≤ 32 ∧ ∃ γ ys, Lmn s00 nn s b2 b4 P R (.slice Q xs.length C) y.1 y.2.2.2 y.2.1 y.2.2.1 γ ys) (fun a => 32 - a.1) (0, none, 0, s5) ⟨Nat.zero_le _, Nat.zero_le _, 0, [], k05, p5, q4, rfl, .nil, .inl ⟨rfl, rfl⟩, fun x hx => (List.not_mem_nil hx).elim⟩ (.cons rfl (.cons rfl (.cons rfl (.cons rfl .nil)))) rfl rfl (show 32 - 0 < 4611686018427387904 by decide) ?_
 rintro ⟨i, q, cc, t⟩ ⟨i1, i2, γ, ys, I⟩
 simp only at i1 i2 I
 dsimp only
 have wt : Wf t := I.kn.wf w0
 have et := I.kn.le
 have hb2t := (I.r2.lt wt).1
 have hb4t := (I.r4.lt wt).1
 have l67 : ldq t (qadd (some ⟨b2, 0, none⟩) 67) = some (.slice Q xs.length C) := I.r2.f1 (rc_chg hP hR)
 by_cases hi : i < xs.length
 ·by_cases h32 : i < 32
  ·have hok := h.ok xs[i] (List.getElem_mem hi)
   have hsl := hs xs[i] (List.getElem_mem hi)
   obtain ⟨gQ, lx⟩ := (h.kpQ w00 (k00.trans (I.kn.w))).kid hi
   obtain ⟨x, ex⟩ : ∃ x, x = xs[i] := ⟨_, rfl⟩
   rw [← ex] at hok hsl lx
   have hone := hok.one
   obtain ⟨⟨qk, ck, ek, bk1, bk2⟩, ⟨qv, cv, ev1, bv1, bv2⟩, hkb, hvb⟩ := hok
   rw [chc, ek, ev1] at lx hone
   refine run1 ?_
   refine mkO (cs := [.slice none 0 0, .slice none 0 0, .bool false]) fun t1 p1 m1 g1 => ?_
   have wt1 := g1.wf wt
   refine Wo.st rfl rfl rfl rfl rfl rfl rfl hone p1 (by decide) fun t2 p2 m2 g2 => ?_
   have p2 : Rw t2 t.nx [.slice qk x.k.length ck, .slice qv x.v.length cv, .bool x.g] t.nx := p2
   have wt2 := g2.wf wt1
   have Kt2 : Kn t t2 := g1.app g2 (Nat.le_refl _)
   obtain ⟨b7, hb7⟩ : ∃ b, b = t.nx := ⟨_, rfl⟩
   rw [← hb7] at p2 ⊢
   have g7 : good (some ⟨b7, 0, none⟩) := good_b
   have l0 : ldq t2 (qadd (some ⟨b7, 0, none⟩) 0) = some (.slice qk x.k.length ck) := p2.f1 rfl
   have e2 := Kt2.le
   refine run1 ?_
   refine W.meet (α := St × Value × List Nat) (fun a => [(2, .pointer (some ⟨b2, 0, none⟩)), (4, .pointer (some ⟨b4, 0, none⟩)), (5, .slice q i cc), (6, nI i), (7, .pointer (some ⟨b7, 0, none⟩))]) (fun a => a.1)
    (fun a => Kn t a.1 ∧ t2.nx = a.1.nx ∧ Rw a.1 b7 [a.2.1, .slice qv x.v.length cv, .bool x.g] b7 ∧ BsV s00 a.2.1 a.2.2 ∧ (∀ y ∈ a.2.2, y < 256) ∧ a.2.2.length ≤ 32) ?_ ?_
   ·by_cases hk : 32 < x.k.length
    ·obtain ⟨b, o, N, e1, e3⟩ := hsl.1.resolve_left (fun e => by rw [e] at hk; cases hk)
     rw [ek] at e1
     injection e1 with e1 _ e4
     subst e1 e4
     refine run1 ?_
     refine Wo.slH0 (N := x.k.length) rfl rfl rfl rfl rfl rfl ⟨by omega, by rw [cap_sure.1]; exact e3, .inl cap_sure.2⟩ (by omega) fun c' hc' => ?_
     refine run1 ?_
     refine Wo.st rfl rfl rfl rfl rfl rfl rfl (one1 rfl) p2 (show 0 + 0 + 1 ≤ 3 by decide) fun t3 p3 m3 g3 => ?_
     have p3 : Rw t3 b7 [.slice (some ⟨b, o, none⟩) 32 c', .slice qv x.v.length cv, .bool x.g] b7 := p3
     refine run1 ?_
     have hl32 : (x.k.take 32).length = 32 := by rw [List.length_take]; omega
     refine meet.n (t3, .slice (some ⟨b, o, none⟩) 32 c', x.k.take 32) ⟨Kt2.app g3 (by omega), m3.symm, p3, ⟨some ⟨b, o, none⟩, c', by rw [hl32], ?_, by rw [hl32]; decide⟩, fun y hy => hkb y (List.mem_of_mem_take hy), by show (x.k.take 32).length ≤ 32; omega⟩ (.cons rfl (.cons rfl (.cons rfl (.cons rfl (.cons rfl .nil))))) rfl
     have := bk1.take (n := 32) (by rw [List.length_map]; omega)
     rw [← List.map_take] at this
     exact this
    ·refine run1 ?_
     exact meet.n (t2, .slice qk x.k.length ck, x.k) ⟨Kt2, rfl, p2, ⟨qk, ck, rfl, bk1, bk2⟩, hkb, by show x.k.length ≤ 32; omega⟩ (.cons rfl (.cons rfl (.cons rfl (.cons rfl (.cons rfl .nil))))) rfl
   ·rintro ⟨t3, kv, K⟩ ⟨kt3, n23, p3, hkv, hkb, hkl⟩
    simp only at kt3 n23 p3 hkv hkb hkl
    dsimp only
    have wt3 := kt3.wf wt
    have l1 : ldq t3 (qadd (some ⟨b7, 0, none⟩) 1) = some (.slice qv x.v.length cv) := p3.f1 rfl
    refine run1 ?_
    refine W.meet (α := St × Value × List Nat) (fun a => [(2, .pointer (some ⟨b2, 0, none⟩)), (4, .pointer (some ⟨b4, 0, none⟩)), (5, .slice q i cc), (6, nI i), (7, .pointer (some ⟨b7, 0, none⟩))]) (fun a => a.1)
     (fun a => Kn t a.1 ∧ t2.nx = a.1.nx ∧ Rw a.1 b7 [kv, a.2.1, .bool x.g] b7 ∧ BsV s00 a.2.1 a.2.2 ∧ (∀ y ∈ a.2.2, y < 256) ∧ a.2.2.length ≤ 256) ?_ ?_
    ·by_cases hk : 256 < x.v.length
     ·obtain ⟨b, o, N, e1, e3⟩ := hsl.2.resolve_left (fun e => by rw [e] at hk; cases hk)
      rw [ev1] at e1
      injection e1 with e1 _ e4
      subst e1 e4
      refine run1 ?_
      refine Wo.slH0 (N := x.v.length) rfl rfl rfl rfl rfl rfl ⟨by omega, by rw [cap_sure.1]; exact e3, .inl cap_sure.2⟩ (by omega) fun c' hc' => ?_
      refine run1 ?_
      refine Wo.st rfl rfl rfl rfl rfl rfl rfl (one1 rfl) p3 (show 0 + 1 + 1 ≤ 3 by decide) fun t4 p4 m4 g4 => ?_
      have p4 : Rw t4 b7 [kv, .slice (some ⟨b, o, none⟩) 256 c', .bool x.g] b7 := p4
      refine run1 ?_
      have hl32 : (x.v.take 256).length = 256 := by rw [List.length_take]; omega
      refine meet.n (t4, .slice (some ⟨b, o, none⟩) 256 c', x.v.take 256) ⟨kt3.app g4 (by omega), n23.trans m4.symm, p4, ⟨some ⟨b, o, none⟩, c', by rw [hl32], ?_, by rw [hl32]; decide⟩, fun y hy => hvb y (List.mem_of_mem_take hy), by show (x.v.take 256).length ≤ 256; omega⟩ (.cons rfl (.cons rfl (.cons rfl (.cons rfl (.cons rfl .nil))))) rfl
      have := bv1.take (n := 256) (by rw [List.length_map]; omega)
      rw [← List.map_take] at this
      exact this
     ·refine run1 ?_
      exact meet.n (t3, .slice qv x.v.length cv, x.v) ⟨kt3, n23, p3, ⟨qv, cv, rfl, bv1, bv2⟩, hvb, by show x.v.length ≤ 256; omega⟩ (.cons rfl (.cons rfl (.cons rfl (.cons rfl (.cons rfl .nil))))) rfl
    ·rintro ⟨t4, vv, V⟩ ⟨kt4, n24, p4, hvv, hvb, hvl⟩
     simp only at kt4 n24 p4 hvv hvb hvl
     dsimp only
     have wt4 := kt4.wf wt
     obtain ⟨gz, hgz⟩ : ∃ g, g = decide (V.length = 0) := ⟨_, rfl⟩
     obtain ⟨y, hy⟩ : ∃ y : Ch, y = ⟨kv, vv, K, V, gz⟩ := ⟨_, rfl⟩
     have hyo : ChOk s00 y := by subst hy; exact ⟨hkv, hvv, hkb, hvb⟩
     have hym : chM y := by subst hy; exact ⟨hkl, hvl, hgz⟩
     have yone := hyo.one
     obtain ⟨qk', ck', ek', _⟩ := hkv
     obtain ⟨qv', cv', ev', _⟩ := hvv
     have hch : chc y = [.slice qk' K.length ck', .slice qv' V.length cv', .bool gz] := by subst hy ek' ev'; rfl
     rw [ek', ev'] at p4
     rw [hch] at yone
     have l1 : ldq t4 (qadd (some ⟨b7, 0, none⟩) 1) = some (.slice qv' V.length cv') := p4.f1 rfl
     refine run1 ?_
     rw [← hgz]
     refine Wo.st (vs := [.bool gz]) rfl rfl rfl rfl rfl (by cases gz <;> rfl) rfl (one1 rfl) p4 (show 0 + 2 + 1 ≤ 3 by decide) fun t5 p5 m5 g5 => ?_
     have p5 : Rw t5 b7 [.slice qk' K.length ck', .slice qv' V.length cv', .bool gz] b7 := p5
     have wt5 := g5.wf wt4
     have l7 := p5.all (n := 3) rfl (by decide)
     refine run1 ?_
     refine mkO (cs := [.slice qk' K.length ck', .slice qv' V.length cv', .bool gz]) fun t6 p6 m6 g6 => ?_
     have wt6 := g6.wf wt5
     have Kt6 : Kn t t6 := (kt4.app g5 (by omega)).call g6
     obtain ⟨γ0, hgw, hγt, hγs, hγ2, hγ4⟩ : ∃ γ0, Gw t6 q i cc 3 (ys.map chc).flatten γ0 ∧ γ0 < t6.nx ∧ s.nx ≤ γ0 ∧ γ0 ≠ b2 ∧ γ0 ≠ b4 := by
      rcases I.st with ⟨rfl, rfl⟩ | ⟨c1, c2, c3, c4⟩
      ·have hc0 : cc = 0 := by
        rcases I.gw.at' with ⟨_, _, h⟩ | ⟨_, _, h, _⟩
        ·exact h
        ·cases h
       have hys : ys = [] := List.eq_nil_of_length_eq_zero I.len
       subst hc0 hys
       exact ⟨b7, .nil, by omega, by omega, by omega, by omega⟩
      ·exact ⟨γ, I.gw.kp wt Kt6 id, by omega, c1, c3, c4⟩
     refine Wo.app rfl rfl rfl rfl rfl rfl rfl rfl rfl wt6 hgw rfl (cells_at (k := 1) (size := 3) p6.ats rfl (by decide)) rfl yone rfl (by omega) (by omega) ?_
     intro qn cn γn ta a1 a2 a3
     have wta := a2.wf wt6
     have ea := a2.le
     have hγa : γn < ta.nx := by
      refine a1.ltq wta ?_
      rintro rfl
      rcases a1.at' with ⟨_, h, _⟩ | ⟨_, _, h, _⟩ <;> cases h
     have e6 := Kt6.le
     have hγn : γn = γ0 ∨ t6.nx ≤ γn := by rcases a3 with h | ⟨h, _⟩ <;> omega
     refine run1 ?_
     refine rnd.n (i + 1, qn, cn, ta) ⟨hi, h32, γn, ys ++ [y], (I.kn.call Kt6).app a2 hγs, (I.r2.kp wt Kt6 id).kp wt6 a2 (by omega), (I.r4.kp wt Kt6 id).kp wt6 a2 (by omega), by rw [List.length_append, I.len]; rfl, ?_, .inr ⟨by omega, hγa, by omega, by omega⟩, fun z hz => ?_⟩ (by show 32 - (i + 1) < 32 - i; omega) (.cons rfl (.cons rfl (.cons rfl (.cons rfl .nil)))) rfl rfl
     ·show Gw ta qn (i + 1) cn 3 ((ys ++ [y]).map chc).flatten γn
      rw [List.map_append, List.flatten_append, show ([y].map chc).flatten = chc y by simp, hch]
      exact a1
     ·rcases List.mem_append.1 hz with hz | hz
      ·exact I.it z hz
      ·rw [List.mem_singleton.1 hz]; exact ⟨hyo, hym⟩
  ·refine run1 ?_
   refine Wo.st rfl rfl rfl rfl rfl rfl rfl (one1 rfl) I.r2 (by rw [rc_len hP hR]; decide) fun t1 p1 m1 g1 => ?_
   rw [show 0 + 67 = 67 from rfl, rc_set67 hP hR] at p1
   have wt1 := g1.wf wt
   have l68 := p1.all (n := 68) (rc_len hP hR) (by decide)
   refine run1 ?_
   refine Wo.st rfl rfl rfl rfl rfl rfl (rc_len hP hR) rc_one (I.r4.kp wt g1 (by omega)) (by decide) fun t2 p2 m2 g2 => ?_
   rw [lov_all (by rw [rc_len hP hR]; rfl)] at p2
   refine run1 ?_
   have hcl := cell_at (B := B) (t := 35) rfl rfl p2 (rc_len hP hR) rfl
   obtain ⟨γ', sl', hn1, hn2, hn3⟩ : ∃ γ', Sl t q (ys.map chc).flatten γ' ∧ γ' ≠ b2 ∧ γ' ≠ b4 ∧ ((ys = [] ∧ q = none) ∨ (s.nx ≤ γ' ∧ γ' < t.nx)) := by
    rcases I.st with ⟨h0, rfl⟩ | ⟨c1, c2, c3, c4⟩
    ·have hy : ys = [] := List.eq_nil_of_length_eq_zero (I.len.trans h0)
     subst hy
     exact ⟨t.nx, .inl ⟨rfl, .inl rfl⟩, by omega, by omega, .inl ⟨rfl, rfl⟩⟩
    ·exact ⟨γ, I.gw.sl, c3, c4, .inr ⟨c1, c2⟩⟩
   have kt2 : Kn s t2 := (I.kn.app g1 (by omega)).app g2 (by omega)
   refine Lv.ret (vs := [.agg ⟨rcV 2 nn (1 + nn / 2 : Nat) P R (.slice q i cc)⟩]) ?_ ⟨q, ys, cc, γ', by rw [I.len]; rfl, (sl'.kp wt g1 hn1).kp wt1 g2 hn2, hn3.imp id (fun h => ⟨by omega, by have := g1.le; have := g2.le; omega⟩), fun y hy => (I.it y hy).1, ⟨.inr ⟨rfl, by omega, by rw [I.len]; exact i2⟩, by omega, by omega, by omega, fun y hy => (I.it y hy).2⟩, kt2⟩
   show (match cell1 B.P (.pointer (some ⟨b4, 0, none⟩)) 35 t2, some [] with | some v, some vs => some (v :: vs) | _, _ => none) = _
   rw [hcl]
 ·refine run1 ?_
  refine Wo.st rfl rfl rfl rfl rfl rfl rfl (one1 rfl) I.r2 (by rw [rc_len hP hR]; decide) fun t1 p1 m1 g1 => ?_
  rw [show 0 + 67 = 67 from rfl, rc_set67 hP hR] at p1
  have wt1 := g1.wf wt
  have l68 := p1.all (n := 68) (rc_len hP hR) (by decide)
  refine run1 ?_
  refine Wo.st rfl rfl rfl rfl rfl rfl (rc_len hP hR) rc_one (I.r4.kp wt g1 (by omega)) (by decide) fun t2 p2 m2 g2 => ?_
  rw [lov_all (by rw [rc_len hP hR]; rfl)] at p2
  refine run1 ?_
  have hcl := cell_at (B := B) (t := 35) rfl rfl p2 (rc_len hP hR) rfl
  obtain ⟨γ', sl', hn1, hn2, hn3⟩ : ∃ γ', Sl t q (ys.map chc).flatten γ' ∧ γ' ≠ b2 ∧ γ' ≠ b4 ∧ ((ys = [] ∧ q = none) ∨ (s.nx ≤ γ' ∧ γ' < t.nx)) := by
   rcases I.st with ⟨h0, rfl⟩ | ⟨c1, c2, c3, c4⟩
   ·have hy : ys = [] := List.eq_nil_of_length_eq_zero (I.len.trans h0)
    subst hy
    exact ⟨t.nx, .inl ⟨rfl, .inl rfl⟩, by omega, by omega, .inl ⟨rfl, rfl⟩⟩
   ·exact ⟨γ, I.gw.sl, c3, c4, .inr ⟨c1, c2⟩⟩
  have kt2 : Kn s t2 := (I.kn.app g1 (by omega)).app g2 (by omega)
  refine Lv.ret (vs := [.agg ⟨rcV 2 nn (1 + nn / 2 : Nat) P R (.slice q i cc)⟩]) ?_ ⟨q, ys, cc, γ', by rw [I.len]; rfl, (sl'.kp wt g1 hn1).kp wt1 g2 hn2, hn3.imp id (fun h => ⟨by omega, by have := g1.le; have := g2.le; omega⟩), fun y hy => (I.it y hy).1, ⟨.inr ⟨rfl, by omega, by rw [I.len]; exact i2⟩, by omega, by omega, by omega, fun y hy => (I.it y hy).2⟩, kt2⟩
  show (match cell1 B.P (.pointer (some ⟨b4, 0, none⟩)) 35 t2, some [] with | some v, some vs => some (v :: vs) | _, _ => none) = _
  rw [hcl]
end Go.Proofs.YtglilbadldocoaaGreatDoor
