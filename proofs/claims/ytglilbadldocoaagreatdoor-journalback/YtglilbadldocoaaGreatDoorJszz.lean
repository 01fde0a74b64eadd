import Derived.Test.YtglilbadldocoaaGreatDoorCpzz
namespace Go.Proofs.YtglilbadldocoaaGreatDoor
open Go Go.Ev Go.Sy
set_option maxRecDepth 100000
variable {s : St}
theorem fm_s {t : St} {d : Nat} {q : Option Addr} {c : Nat} {A : List Nat} (h : At t q (A.map nB)) (hl : A.length < 2 ^ 40) : Fm t (d + 1) [.bool false, .slice q A.length c, .slice none 0 0] (fS A) := .inl ⟨q, c, A, none, 0, rfl, h, hl, rfl⟩
theorem jbody_ok {k c q : Nat} {P R : List Nat} {Q : Option Addr} {xs : List Ch} {C : Nat} {A : List Nat} (w0 : Wf s) (hT : TabAt s) (hP : P.length = 32) (hR : R.length = 32) (h : RcOk s Q xs) (hm : mayR k c q xs) (hPb : ∀ x ∈ P, x < 256) (hRb : ∀ x ∈ R, x < 256) (hx : ∀ x ∈ xs, (∀ y ∈ x.k, y < 256) ∧ ∀ y ∈ x.v, y < 256) (hA : A = bdy k c q P R xs) :
  Cl B (.call 16 [.agg ⟨rcV k c q P R (.slice Q xs.length C)⟩]) s fun v s' => ∃ b, v = .tuple ⟨[.slice (some ⟨b, 0, none⟩) A.length (sure A.length), nI 0]⟩ ∧ s.nx ≤ b ∧ Rw s' b (A.map nB) b ∧ Kn s s' := by
 have hk2 : k ≤ 2 := by rcases hm.1 with ⟨h, _⟩ | ⟨h, _⟩ <;> omega
 have hc40 : c ≤ 1099511627776 := by have := hm.2.2.1; omega
 have hq40 : q ≤ 1099511627776 := by have := hm.2.2.2.1; omega
 have hx32 : xs.length ≤ 32 := by rcases hm.1 with ⟨_, _, h⟩ | ⟨_, _, h⟩ <;> omega
 have hAl := bdy_ok hP hR hm hPb hRb hx
 rw [← hA] at hAl
 have hdk := dgs_len (k := 8) (n := k) (by omega)
 have hdc := dgs_len (k := 8) (n := c) (by omega)
 have hdq := dgs_len (k := 8) (n := q) (by omega)
 refine Cl.enter Tryz.f16 fn16 rfl rfl rfl ?_
 refine run1 ?_
 refine mkO (cs := rcV k c q P R (.slice Q xs.length C)) fun s1 r1 n1 k1 => ?_
 have w1 : Wf s1 := k1.wf w0
 obtain ⟨b1, hb1⟩ : ∃ b, b = s.nx := ⟨_, rfl⟩
 rw [← hb1] at r1 ⊢
 have gd : good (some ⟨b1, 0, none⟩) := good_b
 have lr := r1.all (n := 68) (rc_len hP hR) (by decide)
 refine run1 ?_
 refine Wo.call rfl (Xc.call ok31 rfl) rfl ((jmay_ok w1 (hT.kpN w0 (k1.w)) hP hR (h.kn w0 k1)).mono ?_)
 rintro v s2 ⟨rfl, k2⟩
 rw [decide_eq_true hm]
 have w2 : Wf s2 := k2.wf w1
 have r2 := r1.kp w1 k2 id
 have a0 : ldq s2 (qadd (some ⟨b1, 0, none⟩) 0) = some (nI k) := r2.f1 rfl
 refine run1 ?_
 refine W.dr [(0, .none, 0), (1, .reads, 1), (2, .acts, 3), (3, .none, 0), (4, .reads, 8), (5, .acts, 31), (6, .none, 0), (7, .reads, 64), (8, .acts, 255), (9, .none, 0), (10, .none, 512), (11, .acts, 2047), (12, .none, 0), (13, .none, 4096), (14, .acts, 16383), (15, .none, 0), (16, .reads, 32768), (17, .acts, 131071), (18, .makes, 262143), (19, .acts, 524287), (20, .acts, 1048575), (21, .none, 2097151), (22, .none, 2097151), (23, .none, 8388607), (24, .none, 16777215)] (by kernel_rfl) rfl (run1 ?_)
 refine Wd.call rfl (Xc.call ok34 rfl) rfl ((numItem_ok (n := k) w2 (by omega)).mono ?_)
 rintro v s3 ⟨bk, rfl, lk', rk, k3⟩
 have w3 : Wf s3 := k3.wf w2
 have r3 := r2.kp w2 k3 id
 have a1 : ldq s3 (qadd (some ⟨b1, 0, none⟩) 1) = some (nI c) := r3.f1 rfl
 have a1' : ldq s2 (qadd (some ⟨b1, 0, none⟩) 1) = some (nI c) := r2.f1 rfl
 refine ⟨k3.le, run1 ?_⟩
 refine Wd.call rfl (Xc.call ok34 rfl) rfl ((numItem_ok (n := c) w3 (by omega)).mono ?_)
 rintro v s4 ⟨bc, rfl, lc', rc, k4⟩
 have w4 : Wf s4 := k4.wf w3
 have r4 := r3.kp w3 k4 id
 have a2 : ldq s4 (qadd (some ⟨b1, 0, none⟩) 2) = some (nI q) := r4.f1 rfl
 have a2' : ldq s3 (qadd (some ⟨b1, 0, none⟩) 2) = some (nI q) := r3.f1 rfl
 have a2'' : ldq s2 (qadd (some ⟨b1, 0, none⟩) 2) = some (nI q) := r2.f1 rfl
 refine ⟨k4.le, run1 ?_⟩
 refine Wd.call rfl (Xc.call ok34 rfl) rfl ((numItem_ok (n := q) w4 (by omega)).mono ?_)
 rintro v s5 ⟨bq, rfl, lq', rq, k5⟩
 have w5 : Wf s5 := k5.wf w4
 refine ⟨k5.le, run1 ?_⟩
 refine Wd.val rfl (Xv.slP (b := b1) (o := 3) rfl rfl rfl (by decide)).1 rfl (Nat.le_refl _) ?_
 refine run1 ?_
 refine Wd.call rfl (Xc.call ok35 rfl) rfl ((stringItem_ok w5).mono ?_)
 rintro v s6 ⟨rfl, k6⟩
 have w6 : Wf s6 := k6.wf w5
 refine ⟨k6.le, run1 ?_⟩
 refine Wd.val rfl (Xv.slP (b := b1) (o := 35) rfl rfl rfl (by decide)).1 rfl (Nat.le_refl _) ?_
 refine run1 ?_
 refine Wd.call rfl (Xc.call ok35 rfl) rfl ((stringItem_ok w6).mono ?_)
 rintro v s7 ⟨rfl, k7⟩
 have w7 : Wf s7 := k7.wf w6
 have K27 : Kn s2 s7 := k3.call (k4.call (k5.call (k6.call k7)))
 have K17 : Kn s1 s7 := k2.call K27
 have K07 : Kn s s7 := k1.call K17
 have r7 := r2.kp w2 K27 id
 have ld67 : ∀ {t : St}, Rw t b1 (rcV k c q P R (.slice Q xs.length C)) b1 → ldq t (qadd (some ⟨b1, 0, none⟩) 67) = some (.slice Q xs.length C) := fun r => r.f1 (rc_chg hP hR)
 have c2 := ld67 r2
 have c3 := ld67 r3
 have c4 := ld67 r4
 have c5 := ld67 (r4.kp w4 k5 id)
 have c6 := ld67 ((r4.kp w4 k5 id).kp w5 k6 id)
 have c7 := ld67 r7
 refine ⟨k7.le, run1 ?_⟩
 refine Wd.read rfl (Xv.ld rfl rfl rfl c7) rfl eqV_slice ⟨Xv.ld rfl rfl rfl c7, Xv.ld rfl rfl rfl c6, Xv.ld rfl rfl rfl c5, Xv.ld rfl rfl rfl c4, Xv.ld rfl rfl rfl c3, Xv.ld rfl rfl rfl c2, trivial⟩ ?_
 refine run1 ?_
 refine Wd.call rfl (Xc.call ok36 rfl) rfl ((chg_ok w7 (h.kn w0 K07) hm.2.2.2.2 hx32).mono ?_)
 rintro v s8 ⟨qx, cx, rfl, fx, k8⟩
 have w8 : Wf s8 := k8.wf w7
 refine ⟨k8.le, run1 ?_⟩
 refine mk_gen (cs := [.bool false, .slice (some ⟨bk, 0, none⟩) (dgs k).length (sure (dgs k).length), .slice none 0 0, .bool false, .slice (some ⟨bc, 0, none⟩) (dgs c).length (sure (dgs c).length), .slice none 0 0, .bool false, .slice (some ⟨bq, 0, none⟩) (dgs q).length (sure (dgs q).length), .slice none 0 0, .bool false, .slice (some ⟨b1, 3, none⟩) 32 (sure 32), .slice none 0 0, .bool false, .slice (some ⟨b1, 35, none⟩) 32 (sure 32), .slice none 0 0, .bool true, .slice none 0 0, .slice qx xs.length cx]) (M := fun s' => Wd _ _ _ _ _ _ s' _) fun s9 r9 n9 k9 => ?_
 have w9 : Wf s9 := k9.wf w8
 refine Wd.call rfl (Xc.call ok33 rfl) rfl ((listOf_ok w9).mono ?_)
 rintro v sa ⟨rfl, ka⟩
 have wa : Wf sa := ka.wf w9
 refine ⟨ka.le, run1 ?_⟩
 have K8a : Kn s8 sa := k9.call ka
 have K7a : Kn s7 sa := k8.call K8a
 have K2a : Kn s2 sa := K27.call K7a
 have ra := r2.kp w2 K2a id
 have pa : At sa (some ⟨b1, 3, none⟩) (P.map nB) := by
  have := (ra.sl (o := 3) (n := 32) (by rw [rc_len hP hR]; decide)).at
  rwa [show ((rcV k c q P R (.slice Q xs.length C)).drop 3).take 32 = P.map nB from List.take_left' (by rw [List.length_map, hP])] at this
 have qa : At sa (some ⟨b1, 35, none⟩) (R.map nB) := by
  have := (ra.sl (o := 35) (n := 32) (by rw [rc_len hP hR]; decide)).at
  rwa [show ((rcV k c q P R (.slice Q xs.length C)).drop 35).take 32 = R.map nB from by
   show ((P.map nB ++ (R.map nB ++ [Value.slice Q xs.length C])).drop 32).take 32 = _
   rw [List.drop_left' (by rw [List.length_map, hP]), List.take_left' (by rw [List.length_map, hR])]] at this
 have f1 : Fm sa 3 [.bool false, .slice (some ⟨bk, 0, none⟩) (dgs k).length (sure (dgs k).length), .slice none 0 0] (fS (dgs k)) := fm_s (rk.kp w3 (k4.call (k5.call (k6.call (k7.call K7a)))) id).ats (by omega)
 have f2 : Fm sa 3 [.bool false, .slice (some ⟨bc, 0, none⟩) (dgs c).length (sure (dgs c).length), .slice none 0 0] (fS (dgs c)) := fm_s (rc.kp w4 (k5.call (k6.call (k7.call K7a))) id).ats (by omega)
 have f3 : Fm sa 3 [.bool false, .slice (some ⟨bq, 0, none⟩) (dgs q).length (sure (dgs q).length), .slice none 0 0] (fS (dgs q)) := fm_s (rq.kp w5 (k6.call (k7.call K7a)) id).ats (by omega)
 have f4 : Fm sa 3 [.bool false, .slice (some ⟨b1, 3, none⟩) 32 (sure 32), .slice none 0 0] (fS P) := by
  have := fm_s (d := 2) (c := sure 32) pa (by omega)
  rwa [hP] at this
 have f5 : Fm sa 3 [.bool false, .slice (some ⟨b1, 35, none⟩) 32 (sure 32), .slice none 0 0] (fS R) := by
  have := fm_s (d := 2) (c := sure 32) qa (by omega)
  rwa [hR] at this
 have f6 : Fm sa 3 [.bool true, .slice none 0 0, .slice qx xs.length cx] (fL (xs.flatMap chf)) := fx.kn w8 K8a
 have hF : Fm sa 4 [.bool true, .slice none 0 0, .slice (some ⟨s8.nx, 0, none⟩) 6 (sure 6)] A := by
  refine .inr ⟨some ⟨s8.nx, 0, none⟩, sure 6, none, 0, [[.bool false, .slice (some ⟨bk, 0, none⟩) (dgs k).length (sure (dgs k).length), .slice none 0 0], [.bool false, .slice (some ⟨bc, 0, none⟩) (dgs c).length (sure (dgs c).length), .slice none 0 0], [.bool false, .slice (some ⟨bq, 0, none⟩) (dgs q).length (sure (dgs q).length), .slice none 0 0], [.bool false, .slice (some ⟨b1, 3, none⟩) 32 (sure 32), .slice none 0 0], [.bool false, .slice (some ⟨b1, 35, none⟩) 32 (sure 32), .slice none 0 0], [.bool true, .slice none 0 0, .slice qx xs.length cx]],
   [fS (dgs k), fS (dgs c), fS (dgs q), fS P, fS R, fL (xs.flatMap chf)], rfl, (r9.kp w9 ka id).ats, rfl, (show 6 < 2 ^ 40 by decide), fun x hx => ?_, fun i x G hx hG => ?_, ?_⟩
  ·simp only [List.mem_cons, List.not_mem_nil, or_false] at hx
   rcases hx with rfl | rfl | rfl | rfl | rfl | rfl <;> rfl
  ·match i with
   | 0 => cases hx; cases hG; exact f1
   | 1 => cases hx; cases hG; exact f2
   | 2 => cases hx; cases hG; exact f3
   | 3 => cases hx; cases hG; exact f4
   | 4 => cases hx; cases hG; exact f5
   | 5 => cases hx; cases hG; exact f6
   | i + 6 => cases hx
  ·rw [hA, bdy]; simp only [List.flatten_cons, List.flatten_nil, List.append_assoc, List.append_nil]
 refine Wd.call rfl (Xc.call ok32 rfl) rfl ((encode_ok wa hF (by decide) (by omega)).mono ?_)
 rintro v sb ⟨b, rfl, lb, rb, kb⟩
 refine ⟨kb.le, run1 ?_⟩
 have K0a : Kn s sa := K07.call K7a
 exact Lv.ret rfl ⟨b, rfl, by have := K0a.le; omega, rb, K0a.call kb⟩
open Go Go.Ev Go.Sy
set_option maxRecDepth 100000
variable {s : St}
theorem jwrite_ok {k c q : Nat} {P R : List Nat} {Q : Option Addr} {xs : List Ch} {C b : Nat} {A H : List Nat} {D : Nat → Prop} {K : St → Prop} (w0 : Wf s) (hT : TabAt s) (hP : P.length = 32) (hR : R.length = 32) (h : RcOk s Q xs) (hm : mayR k c q xs) (hPb : ∀ x ∈ P, x < 256) (hRb : ∀ x ∈ R, x < 256) (hx : ∀ x ∈ xs, (∀ y ∈ x.k, y < 256) ∧ ∀ y ∈ x.v, y < 256) (hA : A = bdy k c q P R xs) (hH : H.length = 32)
  (hD : ∀ c, D c → c < s.nx) (hc : ∀ s3 bb, Kn s s3 → s.nx ≤ bb → Rw s3 bb (A.map nB) bb → Cl B (.call 18 [.pointer (some ⟨b, 0, none⟩), .slice (some ⟨bb, 0, none⟩) A.length (sure A.length)]) s3 fun v s4 => v = hsh H ∧ Kp D s3 s4 ∧ ∀ s', Kp (fun c => s.nx ≤ c ∧ c < s3.nx) s4 s' → K s') :
  Cl B (.call 7 [.pointer (some ⟨b, 0, none⟩), .agg ⟨rcV k c q P R (.slice Q xs.length C)⟩]) s fun v s' => ∃ bo, v = .tuple ⟨[.slice (some ⟨bo, 0, none⟩) (fw (A ++ H)).length (sure (fw (A ++ H)).length), hsh H, nI 0]⟩ ∧ s.nx ≤ bo ∧ Rw s' bo ((fw (A ++ H)).map nB) bo ∧ K s' ∧ Kp D s s' := by
 have hAl := bdy_ok hP hR hm hPb hRb hx
 rw [← hA] at hAl
 refine Cl.enter Tryz.f7 fn7 rfl rfl rfl ?_
 refine run1 ?_
 obtain ⟨z, hz⟩ : ∃ z : List Value, z = (List.replicate 32 0).map nB := ⟨_, rfl⟩
 have hzl : z.length = 32 := by rw [hz]; rfl
 obtain ⟨s2, bz, f1, f2, hb, r2, z2, n2, k2⟩ := two_mk (cs := rcV k c q P R (.slice Q xs.length C)) (ds := z) w0
 rw [show mkRow (mkRow s _) _ = s2 from (by rw [← f1, hz]; rfl), show (mkRow s _).nx = bz from f2]
 have w2 : Wf s2 := k2.wf w0
 have gd : good (some ⟨s.nx, 0, none⟩) := good_b
 have lr := r2.all (n := 68) (rc_len hP hR) (by decide)
 refine Wo.val rfl (Xv.pEq rfl rfl rfl) rfl (run1 ?_)
 refine Wo.call rfl (Xc.call ok16 rfl) rfl ((jbody_ok w2 (hT.kpN w0 (k2.w)) hP hR (h.kn w0 k2) hm hPb hRb hx hA).mono ?_)
 rintro v s3 ⟨bb, rfl, lb, r3, k3⟩
 have w3 : Wf s3 := k3.wf w2
 have e3 := k3.le
 refine run1 ?_
 refine Wo.call rfl (Xc.call ok18 rfl) rfl ((hc s3 bb (k2.call k3) (by omega) r3).mono ?_)
 rintro v s4 ⟨rfl, k4, hK⟩
 have w4 : Wf s4 := k4.wf w3
 have e4 := k4.le
 have z4 : Rw s4 bz z bz := (z2.kp w2 k3 id).kp w3 k4 (fun h => by have := hD _ h; omega)
 have b4 : Rw s4 bb (A.map nB) bb := r3.kp w3 k4 (fun h => by have := hD _ h; omega)
 have hbb := (r3.lt w3).1
 refine run1 ?_
 refine mkO (cs := (List.replicate 32 0).map nB) fun s5 y5 n5 k5 => ?_
 have w5 : Wf s5 := k5.wf w4
 refine Wo.st rfl rfl rfl rfl rfl rfl (by rw [List.length_map, hH]) one_nB y5 (by rw [List.length_map, List.length_replicate]; decide) fun s6 y6 n6 k6 => ?_
 rw [lov_all (by rw [List.length_map, List.length_map, hH, List.length_replicate])] at y6
 have K6 : Kn s4 s6 := k5.app k6 (Nat.le_refl _)
 have w6 : Wf s6 := K6.wf w4
 have gy : good (some ⟨s4.nx, 0, none⟩) := good_b
 refine run1 ?_
 refine Wo.val rfl (Xv.slP (b := s4.nx) (o := 0) rfl rfl rfl (by decide)).1 rfl (run1 ?_)
 refine Wo.appN rfl rfl rfl rfl rfl rfl rfl rfl rfl w6 ((b4.kp w4 K6 id).gw (by rw [List.length_map, Nat.mul_one])) rfl (cells_at (k := 32) (size := 1) y6.ats (by rw [List.length_map, hH]) (by decide)) (by rw [List.length_map, hH]) one_nB rfl (by omega) (by omega) (.inr rfl) (by decide) ?_
 intro q7 c7 s7 g7 k7
 have w7 : Wf s7 := k7.wf w6
 rw [← List.map_append] at g7
 have hAH : (A ++ H).length = A.length + 32 := by rw [List.length_append, hH]
 refine run1 ?_
 rw [← hAH] at g7 ⊢
 refine Wo.call rfl (Xc.call ok19 rfl) rfl ((wrap_ok w7 g7.sl.at (by omega)).mono ?_)
 rintro v s8 ⟨bo, rfl, lo, r8, k8⟩
 have w8 : Wf s8 := k8.wf w7
 have K68 : Kn s6 s8 := k7.call k8
 have K48 : Kn s4 s8 := K6.call K68
 have y8 := y6.kp w6 K68 id
 have ly8 := y8.all (n := 32) (by rw [List.length_map, hH]) (by decide)
 refine run1 ?_
 refine W.dr [(0, .none, 0), (1, .reads, 0), (2, .none, 1), (3, .acts, 7), (4, .none, 15)] (by kernel_rfl) rfl (run1 ?_)
 refine Wd.read rfl (Xv.ldN rfl rfl rfl ly8) rfl eqV_h ⟨Xv.ldN rfl rfl rfl ly8, trivial⟩ (run1 ?_)
 refine Wd.st rfl rfl rfl rfl rfl rfl (by rw [List.length_map, hH]) one_nB (z4.kp w4 K48 id) (by rw [hzl]; decide) fun s9 r9 n9 k9 => ?_
 rw [lov_all (by rw [List.length_map, hH, hzl])] at r9
 have e7 := k7.le
 have e6 := K6.le
 refine run1 ?_
 have hcl := cell_at (B := B) (t := 32) (n := 32) (k := .ar 32 5) rfl rfl r9 (by rw [List.length_map, hH]) rfl
 have K02 : Kp D s s4 := ((k2.call k3).w).trans k4
 refine Lv.ret (vs := [.slice (some ⟨bo, 0, none⟩) (fw (A ++ H)).length (sure (fw (A ++ H)).length), hsh H, nI 0]) ?_ ⟨bo, rfl, by omega, r8.kp w8 k9 (by omega), hK s9 ((K48.w).trans (k9.mono fun c h => by omega)), Kp.late (K02.trans (K48.w)) k9 (by omega)⟩
 show (match some (Value.slice (some ⟨bo, 0, none⟩) (fw (A ++ H)).length (sure (fw (A ++ H)).length)), (match cell1 B.P (.pointer (some ⟨bz, 0, none⟩)) 32 s9, some [nI 0] with | some v, some vs => some (v :: vs) | _, _ => none) with | some v, some vs => some (v :: vs) | _, _ => none) = _
 rw [hcl]; rfl
end Go.Proofs.YtglilbadldocoaaGreatDoor
namespace Go.Sy
open Go Go.Ev
section
variable {X : Fx} {env : Env} {s : St}
theorem Xv.remW {t t' : TypeId} {x y : Operand} {a z : Int} {n : Nat} (hx : ev env x = some (.int .i64 a)) (hy : ev env y = some (.int .i64 (.ofNat n))) (hn : n ≠ 0) (hz : a.tmod (Int.ofNat n) = z) : Xv X (.binOp .rem t x y t') env s (.int .i64 z) s := fun tm hf => by
 show xBin X.P .rem t x y (opd tm x) (opd tm y) s = _
 rw [ev_opd hf hx, ev_opd hf hy]
 have hn' : ¬ (Int.ofNat n = 0) := fun h => hn (Int.ofNat.inj h)
 have e : pureRun X.P (binOp .rem t (.int .i64 a) (.int .i64 (.ofNat n))) = some (.int .i64 z) := by
  show pureRun X.P (Op.intDiv .rem .i64 a (.ofNat n)) = _
  unfold Op.intDiv
  rw [if_neg hn', hz]; rfl
 have o : ofPure X.P (binOp .rem t (.int .i64 a) (.int .i64 (.ofNat n))) s = .ok (.val (.int .i64 z)) s := by
  unfold ofPure
  rw [e]
  show fI z (fun n => Re.ok (.val (.int .i64 n)) s) = _
  rw [fI_eq]
 show ints X.P .rem t .i64 .i64 a (.ofNat n) s = _
 cases a with
 | ofNat m =>
  have hr : arN .rem .i64 m n = some (m % n) := by
   show cond (Nat.beq n 0) none (some (Nat.mod m n)) = _
   rw [show Nat.beq n 0 = false by cases n with | zero => exact absurd rfl hn | succ n => rfl]; rfl
  have hz' : z = Int.ofNat (m % n) := by rw [← hz]; rfl
  show cond true (match arN .rem .i64 m n with | some n => okN .i64 n s | none => _) .no = _
  rw [hr, hz']
  show okN .i64 (m % n) s = _
  unfold okN; rw [fN_eq]
 | negSucc m => exact o
theorem Xv.negW {t : TypeId} {x : Operand} {a z : Int} (hx : ev env x = some (.int .i64 a)) (hz : IntKind.wrap .i64 (0 - a) = z) : Xv X (.unOp .neg t x) env s (.int .i64 z) s := fun tm hf => by
 show xUn X.P .neg (opd tm x) s = _
 rw [ev_opd hf hx]
 show ofPure X.P (Op.unary .neg (.int .i64 a)) s = _
 have e : pureRun X.P (Op.unary .neg (.int .i64 a)) = some (.int .i64 z) := by
  show some (Value.int .i64 (IntKind.wrap .i64 (0 - a))) = _
  rw [hz]
 unfold ofPure
 rw [e]
 show fI z (fun n => Re.ok (.val (.int .i64 n)) s) = _
 rw [fI_eq]
end
end Go.Sy
namespace Go.Proofs.YtglilbadldocoaaGreatDoor
open Go Go.Ev Go.Sy
set_option maxRecDepth 100000
variable {s : St}
def In64 (z : Int) : Prop := -9223372036854775808 ≤ z ∧ z < 9223372036854775808
theorem bits_ok {z : Int} : Cl B (.call 12 [I z]) s fun v s' => (∃ n : Nat, v = nI n ∧ 8 ≤ n ∧ n ≤ 256) ∧ s' = s := by
 refine Cl.enter Tryz.f12 fn12 rfl rfl rfl ?_
 refine run1 ?_
 obtain ⟨y, hy⟩ : ∃ y, y = z.tmod (Int.ofNat 249) := ⟨_, rfl⟩
 have hr : -249 < y ∧ y < 249 := by
  have h1 := Int.tmod_lt_of_pos z (show (0 : Int) < 249 by decide)
  have h2 := Int.lt_tmod_of_pos z (show (0 : Int) < 249 by decide)
  have : (Int.ofNat 249 : Int) = 249 := rfl
  rw [this] at hy
  omega
 refine Wo.val rfl (Xv.remW (n := 249) (z := y) rfl rfl (by decide) hy.symm) rfl (run1 ?_)
 by_cases h0 : y < 0
 ·obtain ⟨n, hn⟩ : ∃ n : Nat, -y = (n : Int) := ⟨(-y).toNat, by omega⟩
  refine run1 ?_
  refine Wo.val rfl (Xv.negW (z := Int.ofNat n) rfl (by
   show (if (true && decide (((0 - y) % 18446744073709551616 : Int) ≥ 9223372036854775808)) = true then (0 - y) % 18446744073709551616 - 18446744073709551616 else (0 - y) % 18446744073709551616) = _
   rw [if_neg (by simp; omega)]
   show _ = (n : Int)
   omega)) rfl ?_
  have : n < 249 := by omega
  refine run1 ?_
  exact Lv.ret rfl ⟨⟨8 + n, rfl, by omega, by omega⟩, rfl⟩
 ·obtain ⟨n, hn⟩ : ∃ n : Nat, y = (n : Int) := ⟨y.toNat, by omega⟩
  subst hn
  have : n < 249 := by omega
  refine run1 ?_
  exact Lv.ret rfl ⟨⟨8 + n, rfl, by omega, by omega⟩, rfl⟩
theorem secret_ok (w0 : Wf s) : Cl B (.call 14 [.slice none 0 0]) s fun v s' => New s s' v (List.replicate 32 0) := by
 refine Cl.enter Tryz.f14 fn14 rfl rfl rfl ?_
 refine run1 ?_
 refine W.loop (α := Nat × St × Option Addr × Nat × Nat) (fun a => [(0, .slice none 0 0), (3, .slice a.2.2.1 a.1 a.2.2.2.1), (4, nI a.1)]) (fun _ => []) (fun a => a.2.1)
  (fun a => a.1 ≤ 32 ∧ Gw a.2.1 a.2.2.1 a.1 a.2.2.2.1 1 ((List.replicate a.1 0).map nB) a.2.2.2.2 ∧ s.nx ≤ a.2.2.2.2 ∧ Kn s a.2.1) (fun a => 32 - a.1) (0, s, none, 0, s.nx) ⟨Nat.zero_le _, .nil, Nat.le_refl _, .refl⟩ (.cons rfl (.cons rfl (.cons rfl .nil))) rfl rfl (by show 32 - 0 < _; omega) ?_
 rintro ⟨i, t, q, c, γ⟩ ⟨i1, i2, i3, i4⟩
 simp only at i1 i2 i3 i4
 dsimp only
 have wt : Wf t := i4.wf w0
 by_cases hi : i < 32
 ·have hn : ¬ i < 0 := Nat.not_lt_zero _
  refine run1 ?_
  refine mkO (cs := [nB 0]) fun t1 p1 m1 g1 => ?_
  have wt1 : Wf t1 := g1.wf wt
  have e1 := g1.le
  have e4 := i4.le
  refine Wo.app rfl rfl rfl rfl rfl rfl rfl rfl rfl wt1 (i2.kp wt g1 id) rfl (cells_at (k := 1) (size := 1) p1.ats rfl (by decide)) rfl (by intro v hv; exact one_nB (A := [0]) v hv) rfl (by omega) (by omega) ?_
  intro q' c' γ' t2 h1 h2 h3
  refine run1 ?_
  refine rnd.n (i + 1, t2, q', c', γ') ⟨hi, ?_, ?_, (i4.call g1).app h2 i3⟩ (by show 32 - (i + 1) < 32 - i; omega) (.cons rfl (.cons rfl (.cons rfl .nil))) rfl rfl
  ·rw [show (List.replicate i 0).map nB ++ [nB 0] = (List.replicate (i + 1) 0).map nB by rw [List.replicate_succ', List.map_append]; rfl] at h1
   exact h1
  ·show s.nx ≤ γ'
   rcases h3 with h | ⟨h, _⟩ <;> omega
 ·have hie : i = 32 := by omega
  subst hie
  refine run1 ?_
  exact Lv.ret rfl ⟨q, c, γ, rfl, i2, i3, i4⟩
structure Bks (s s' : St) (cb b r1 r2 r3 a : Nat) (u : Value) : Prop where
 book : Rw s' b (bkT 256 cb (List.replicate 32 0) (bl 0 r1 0 r2 0 r3 0)) b
 map : Mp s' r2 []
 lt : s.nx ≤ r2 ∧ r2 < b
 ref : Rw s' a (rbV 256 cb u (.slice none 0 0) (.slice none 0 0) (.slice none 0 0)) a
 lta : b < a
 sec : BsV s' u (List.replicate 32 0)
 kn : Kn s s'
 bits : 8 ≤ cb ∧ cb ≤ 256
 map1 : Mp s' r1 []
 map3 : Mp s' r3 []
 ord : s.nx ≤ r1 ∧ r1 < r2 ∧ r2 < r3 ∧ r3 < b
theorem books_ok {z : Int} (w0 : Wf s) (hz : In64 z) : Cl B (.call 4 [I z]) s fun v s' => ∃ cb b r1 r2 r3 a u, v = .tuple ⟨[.pointer (some ⟨b, 0, none⟩), .pointer (some ⟨a, 0, none⟩)]⟩ ∧ Bks s s' cb b r1 r2 r3 a u := by
 refine Cl.enter Tryz.f4 fn4 rfl rfl rfl ?_
 refine run1 ?_
 refine Wo.val rfl (Xv.subW rfl rfl hz.2 rfl) rfl (run1 ?_)
 refine Wo.call rfl (Xc.call ok12 rfl) rfl (bits_ok.mono ?_)
 rintro v s' ⟨⟨cb, rfl, hb1, hb2⟩, e'⟩
 rw [e']; clear e' s'
 refine run1 ?_
 refine Wo.call rfl (Xc.call ok14 rfl) rfl ((secret_ok w0).mono ?_)
 rintro v s1 ⟨q1, c1, γ1, rfl, g1, l1, k1⟩
 have w1 : Wf s1 := k1.wf w0
 refine run1 ?_
 refine Wo.call rfl (Xc.call ok13 rfl) rfl ((dnew_ok (nb := 256) (cb := cb) w1 g1.sl.at rfl (by decide) ⟨hb1, hb2⟩).mono ?_)
 rintro v s2 ⟨b, r1, r2, r3, rfl, B2, m1, m2, m3, e1, e2, e3, e4, k2⟩
 have w2 : Wf s2 := k2.wf w1
 refine run1 ?_
 refine Wo.call rfl (Xc.call ok14 rfl) rfl ((secret_ok w2).mono ?_)
 rintro v s3 ⟨q3, c3, γ3, rfl, g3, l3, k3⟩
 have w3 : Wf s3 := k3.wf w2
 refine run1 ?_
 refine Wo.call rfl (Xc.call ok15 rfl) rfl ((rnew_ok (nb := 256) (cb := cb) w3 g3.sl.at rfl (by decide) ⟨hb1, hb2⟩).mono ?_)
 rintro v s4 ⟨a, u, rfl, R4, la, q4, c4, γ4, rfl, g4, l4, k4⟩
 have w4 : Wf s4 := k4.wf w3
 refine run1 ?_
 have K24 : Kn s2 s4 := k3.call k4
 have hbn := (B2.lt w2).1
 have e5 := k1.le
 have e6 := k3.le
 rw [bk_eq] at B2
 exact Lv.ret rfl ⟨cb, b, r1, r2, r3, a, _, rfl, B2.kp w2 K24 id, Mp.kp m2 w2 K24 id, ⟨by omega, by omega⟩, R4, by omega, ⟨q4, c4, rfl, g4.sl.at, (show 32 < 2 ^ 60 by decide)⟩, k1.call (k2.call K24), ⟨hb1, hb2⟩, Mp.kp m1 w2 K24 id, Mp.kp m3 w2 K24 id, ⟨by omega, e2, e3, e4⟩⟩
end Go.Proofs.YtglilbadldocoaaGreatDoor
