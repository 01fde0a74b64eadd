import Derived.Test.YteldpcbhfbgomaaGreatDoorJezz
import Derived.Test.YteldpcbhfbgomaaGreatDoorWslzz
import Derived.Test.YteldpcbhfbgomaaGreatDoorCazz
namespace Go.Proofs.YteldpcbhfbgomaaGreatDoor
open Go Go.Ev Go.Sy
set_option maxRecDepth 100000
variable {s : St}
theorem rbody_no {k c q : Int} {P R : List Nat} {Q : Option Addr} {xs : List Ch} {C : Nat} (w0 : Wf s) (hP : P.length = 32) (hR : R.length = 32) (h : RcOk s Q xs) (hm : ¬ mayR k c q xs) :
  Cl B (.call 7 [.agg ⟨rcV k c q P R (.slice Q xs.length C)⟩]) s fun v s' => v = .tuple ⟨[.slice none 0 0, nI 2]⟩ ∧ Kn s s' := by
 refine Cl.enter Tryz.f7 fn7 rfl rfl rfl ?_
 refine run1 ?_
 refine mk_gen (cs := rcV k c q P R (.slice Q xs.length C)) (M := fun s' => Wo _ _ _ _ _ s' _) fun s1 r1 n1 k1 => ?_
 have w1 : Wf s1 := k1.wf w0
 have gd : good (some ⟨s.nx, 0, none⟩) := good_b
 have lr := r1.all (n := 68) (rc_len hP hR) (by decide)
 refine run1 ?_
 refine Wo.call rfl (Xc.call ok20 rfl) rfl ((rmay_ok w1 hP hR (h.kn w0 k1)).mono ?_)
 rintro v s2 ⟨rfl, k2⟩
 rw [decide_eq_false hm]
 refine run1 ?_
 exact Lv.ret rfl ⟨rfl, k1.call k2⟩
theorem rplace0_ok {q : Option Addr} {n c : Nat} {cl : Nat} : 
  Cl B (.call 58 [.slice none 0 cl, .slice q n c]) s fun v s' => v = .tuple ⟨[nI 0, .bool false]⟩ ∧ s' = s := by
 refine Cl.enter Tryz.f58 fn58 rfl rfl rfl ?_
 refine run1 ?_
 refine W.loop (α := Unit) (fun _ => [(6, nI 0), (7, nI 0)]) (fun _ => []) (fun _ => s) (fun _ => True) (fun _ => 0) () trivial (.cons rfl (.cons rfl .nil)) rfl rfl (by decide) ?_
 rintro ⟨⟩ -
 refine run1 ?_
 exact Lv.ret rfl ⟨rfl, rfl⟩
variable {q : Option Addr} {c : Nat} {S : List Nat}
def rbV (nb cb : Nat) (S : Value) (a b c : Value) : List Value := [nI nb, nI cb, S, a, b, c]
theorem rnew_ok {nb cb : Nat} (w0 : Wf s) (hq : Bs s q S) (hS : S.length = 32) (h1 : 8 ≤ nb ∧ nb ≤ 256) (h2 : 8 ≤ cb ∧ cb ≤ 256) :
  Cl B (.call 18 [nI nb, nI cb, .slice q 32 c]) s fun v s' => ∃ b u, v = .tuple ⟨[.pointer (some ⟨b, 0, none⟩), nI 0]⟩ ∧ Rw s' b (rbV nb cb u (.slice none 0 0) (.slice none 0 0) (.slice none 0 0)) b ∧ s.nx ≤ b ∧ New s s' u S := by
 refine Cl.enter Tryz.f18 fn18 rfl rfl rfl ?_
 have f1 : ¬ nb < 8 := by omega
 have f2 : ¬ 256 < nb := by omega
 have f3 : ¬ cb < 8 := by omega
 have f4 : ¬ 256 < cb := by omega
 refine run1 ?_
 refine mk_gen (cs := []) (M := fun s' => Wo _ _ _ _ _ s' _) fun s1 r1 n1 k1 => ?_
 have w1 : Wf s1 := k1.wf w0
 refine Wo.appB (A := []) (D := S) rfl rfl rfl rfl rfl rfl rfl (by rw [hS]; rfl) w1 (r1.gw rfl) (hq.kn w0 k1) rfl (by rw [List.length_nil]; omega) ?_
 intro q2 c2 γ2 s2 h1 h2 h3
 have K2 : Kn s s2 := k1.app h2 (Nat.le_refl _)
 have w2 : Wf s2 := K2.wf w0
 have l2 : s.nx ≤ γ2 := by have := k1.le; rcases h3 with h | ⟨h, _⟩ <;> omega
 rw [List.nil_append] at h1
 refine run1 ?_
 refine mk_gen (cs := rbV nb cb (.slice q2 S.length c2) (.slice none 0 0) (.slice none 0 0) (.slice none 0 0)) (M := fun s' => Lv _ _ _ _ _ _ s') fun s3 r3 n3 k3 => ?_
 exact Lv.ret rfl ⟨s2.nx, .slice q2 S.length c2, rfl, r3, K2.le, q2, c2, γ2, rfl, h1.kp w2 k3 id, l2, K2.call k3⟩
open Go Go.Ev Go.Sy
set_option maxRecDepth 100000
variable {s : St} {q : Option Addr} {c : Nat}
variable {A : List Nat}
theorem nt_fill {u0 u : Value} {Z vs : List Value} (h : vs.length = Z.length) : (lov (u0 :: Z) 0 [u]).length = 1 + Z.length ∧ lov (lov (u0 :: Z) 0 [u]) 1 vs = u :: vs := by
 have e : lov (u0 :: Z) 0 [u] = u :: Z := rfl
 rw [e]
 refine ⟨by rw [List.length_cons]; omega, ?_⟩
 unfold lov
 rw [h, List.take_succ_cons, List.take_zero, List.drop_eq_nil_of_le (by rw [List.length_cons]; omega), List.append_nil]
 rfl
theorem fillN_of {env : Env} {pl : Nat → Option (Nat × Nat)} {ps : List (Nat × Operand)} {z cs : List Value} (h : fillE pl env ps z = some cs) : fillN pl env ps z = some cs := by
 unfold fillN
 rw [h]
 exact norm_eq cs
def ntc (u : Value) (h : List Nat) : List Value := u :: h.map nB
theorem rnote0_ok {h : List Nat} (w0 : Wf s) (hq : Bs s q A) (hl : A.length < 2 ^ 39) (hh : h.length = 32) :
  Cl B (.call 42 [.slice none 0 0, .slice q A.length c, hsh h]) s fun v s' => ∃ q' cc γ u, v = .slice q' 1 cc ∧ s.nx ≤ γ ∧ Gw s' q' 1 cc 33 (ntc u h) γ ∧ New s s' u A := by
 refine Cl.enter Tryz.f42 fn42 rfl rfl rfl ?_
 refine run1 ?_
 refine mk_gen (cs := h.map nB) (M := fun s' => Wo _ _ _ _ _ s' _) fun s0 r0 n0 k0 => ?_
 have w00 : Wf s0 := k0.wf w0
 have gd : good (some ⟨s.nx, 0, none⟩) := good_b
 refine run1 ?_
 refine Wo.call rfl (Xc.call ok58 rfl) rfl (rplace0_ok.mono ?_)
 rintro v s' ⟨rfl, e'⟩; rw [e']; clear e' s'
 refine run1 ?_
 refine Wo.val rfl (Xv.slN (k := .i64) rfl rfl rfl rfl).1 rfl (run1 ?_)
 refine Wo.app2 (q := none) (n := 0) (c := 0) (cs := []) (γ := s0.nx) (k := 0) (new := []) rfl rfl rfl rfl rfl rfl rfl rfl rfl w00 Gw.nil rfl rfl rfl (fun _ h => absurd h List.not_mem_nil) rfl (by decide) (by decide) ?_
 intro q1 c1 γ1 s1 g1 k1 h1
 have k1 : Kn s0 s1 := k1.mono fun _ h => absurd rfl h.1
 have w1 : Wf s1 := k1.wf w00
 have l1 : s0.nx ≤ γ1 := by rcases h1 with h | h <;> omega
 refine run1 ?_
 refine W.dr [(1, .makes, 0), (2, .none, 0), (3, .acts, 6), (0, .none, 0), (4, .reads, 0), (5, .none, 30), (6, .makes, 62), (7, .acts, 127), (8, .none, 255)] (by kernel_rfl) rfl (run1 ?_)
 refine mk_gen (cs := []) (M := fun s' => Wd _ _ _ _ _ _ s' _) fun s2 r2 n2 k2 => ?_
 have w2 : Wf s2 := k2.wf w1
 have k02 : Kn s s2 := k0.call (k1.call k2)
 refine Wd.appB (A := []) (D := A) rfl rfl rfl rfl rfl rfl rfl rfl w2 (r2.gw rfl) (hq.kn w0 k02) rfl (by rw [List.length_nil]; omega) ?_
 intro q3 c3 γ3 s3 m1 m2 m3
 have k3 : Kn s1 s3 := k2.app m2 (Nat.le_refl _)
 have w3 : Wf s3 := k3.wf w1
 have l3 : s1.nx ≤ γ3 := by have := k2.le; rcases m3 with h | ⟨h, _⟩ <;> omega
 rw [List.nil_append] at m1
 have lh1 := (r0.kp w00 k1 id).all (n := 32) (by rw [List.length_map, hh]) (by decide)
 have lh3 := (r0.kp w00 (k1.call k3) id).all (n := 32) (by rw [List.length_map, hh]) (by decide)
 refine run1 ?_
 refine Wd.read rfl (Xv.ldN rfl rfl rfl lh3) rfl eqV_h ⟨Xv.ldN rfl rfl rfl lh3, ⟨Xv.ldN rfl rfl rfl lh1, trivial⟩⟩ ?_
 refine Wd.val rfl (Xv.buildE (cs := ntc (.slice q3 A.length c3) h) rfl ?_) rfl (Nat.le_refl _) ?_
 ·refine fill_cons rfl rfl rfl rfl (fun v hv => by rw [List.mem_singleton] at hv; subst hv; rfl) (by decide) (fill_cons rfl rfl rfl (by rw [List.length_map, hh]) one_nB ?_ ?_)
  ·exact Nat.le_of_eq (nt_fill (u0 := .slice none 0 0) (Z := List.replicate 32 (.int .u8 0)) (vs := h.map nB) (by rw [List.length_map, hh]; rfl)).1.symm
  ·exact congrArg some (nt_fill (u0 := .slice none 0 0) (Z := List.replicate 32 (.int .u8 0)) (vs := h.map nB) (by rw [List.length_map, hh]; rfl)).2
 have ln : (ntc (.slice q3 A.length c3) h).length = 33 := by rw [ntc, List.length_cons, List.length_map, hh]
 have on : ∀ v ∈ ntc (.slice q3 A.length c3) h, one v = true := fun v hv => by
  rcases List.mem_cons.1 hv with rfl | hv
  ·rfl
  ·exact one_nB v hv
 refine Wd.make rfl (Xv.bsl (cs := ntc (.slice q3 A.length c3) h) rfl rfl rfl ?_) rfl (Nat.le_succ _) ?_
 ·refine fillN_of (fill_cons rfl rfl rfl ln on ?_ ?_)
  ·exact Nat.le_refl 33
  ·exact congrArg some (lov_all ln)
 refine mk_gen (cs := ntc (.slice q3 A.length c3) h) (M := fun s' => Wd _ _ _ _ _ _ s' _) fun s4 r4 n4 k4 => ?_
 have w4 : Wf s4 := k4.wf w3
 have k14 : Kn s1 s4 := k3.call k4
 refine Wd.app2 (n := 0) (k := 1) (cs := []) rfl rfl rfl rfl rfl rfl rfl rfl rfl w4 (g1.kp w1 k14 id) rfl (cells_at (r4.gw (n := 1) (size := 33) ln).sl.at ln (by decide)) ln on rfl (by decide) (by decide) ?_
 intro q5 c5 γ5 s5 u1 u2 u3
 have w5 : Wf s5 := u2.wf w4
 have K1 : Kn s s1 := k0.call k1
 have e01 := k0.le
 have e1 := k1.le
 have e14 := k14.le
 have l5 : s.nx ≤ γ5 := by rcases u3 with ⟨_, h⟩ | h <;> omega
 have K5 : Kn s s5 := (K1.call k14).app (u2.mono fun _ h => h.2) (by omega)
 have lt3 : q3 ≠ none → γ3 < s3.nx := m1.ltq w3
 have i4 := m1.kp w3 k4 id
 have e34 := k4.le
 have i5 := i4.kpn w4 u2 (fun hq hc => by have := g1.ltq w1 hc.1; omega)
 refine run1 ?_
 refine Wo.val rfl (Xv.slN (k := .i64) rfl rfl rfl rfl).2 rfl (run1 ?_)
 refine Wo.app2 (n := 1) (k := 0) (new := []) rfl rfl rfl rfl rfl rfl rfl rfl rfl w5 u1 rfl rfl rfl (fun _ h => absurd h List.not_mem_nil) rfl (by decide) (by decide) ?_
 intro q6 c6 γ6 s6 z1 z2 z3
 have K6 : Kn s s6 := K5.app (z2.mono fun _ h => h.2) l5
 have e5 := u2.le
 have i6 := i5.kpn w5 z2 (fun hq hc => by
  have := lt3 hq
  rcases u3 with ⟨h1, h⟩ | h
  ·have := g1.ltq w1 h1; omega
  ·omega)
 rw [List.append_nil] at z1
 refine run1 ?_
 refine Lv.ret rfl ⟨q6, c6, γ6, .slice q3 A.length c3, rfl, ?_, z1, q3, c3, γ3, rfl, i6, by omega, K6⟩
 have := K5.le
 rcases z3 with ⟨_, h⟩ | h <;> omega
open Go Go.Ev Go.Sy
set_option maxRecDepth 100000
variable {s : St} {q r : Option Addr} {c d : Nat} {S M : List Nat}
theorem Kp.late {C : Nat → Prop} {s s1 s2 : St} {γ : Nat} (h : Kp C s s1) (k : Kp (fun c => c = γ) s1 s2) (hN : s.nx ≤ γ) : Kp C s s2 :=
 ⟨Nat.le_trans h.le k.le, fun w => k.wf (h.wf w), fun w b o hb hc => k.kp (h.wf w) b o (h.kp w b o hb hc) fun e => by have := (w.lt b o hb).2; omega⟩
theorem rbcode0_ok {b nb cb γ : Nat} {x0 x2 : Value} (w0 : Wf s) (hcb : cb ≤ 256) (hT : TabAt s) (hb : Rw s b (rbV nb cb (.slice q S.length c) x0 (.slice none 0 0) x2) γ) (ha : Bs s q S) (hS : ∀ x ∈ S, x < 256) (hl : S.length < 2 ^ 40) (hm : Bs s r M) (hM : ∀ x ∈ M, x < 256) (hml : M.length < 2 ^ 39) :
  Cl B (.call 24 [.pointer (some ⟨b, 0, none⟩), .slice r M.length d]) s fun v s' => v = hsh (cutOf (hmc S M) cb) ∧ Kp (fun c => c = γ) s s' ∧ ∃ q' cc δ qu cu γu, Rw s' b (rbV nb cb (.slice q S.length c) x0 (.slice q' 1 cc) x2) γ ∧ s.nx ≤ δ ∧ Gw s' q' 1 cc 33 (ntc (.slice qu M.length cu) (cutOf (hmc S M) cb)) δ ∧ Gw s' qu M.length cu 1 (M.map nB) γu ∧ s.nx ≤ γu := by
 obtain ⟨H, hH⟩ : ∃ H, H = cutOf (hmc S M) cb := ⟨_, rfl⟩
 have hHl : H.length = 32 := by rw [hH]; exact ctN_length.trans hmc_length
 rw [← hH]
 have gd : good (some ⟨b, 0, none⟩) := good_b
 have hbl := hb.lt w0
 refine Cl.enter Tryz.f24 fn24 rfl rfl rfl ?_
 refine run1 ?_
 refine mk_gen (cs := (List.replicate 32 0).map nB) (M := fun s' => W _ _ _ _ s' _) fun s1 z1 m1 k1 => ?_
 have w1 : Wf s1 := k1.wf w0
 have b1 := hb.kp w0 k1 id
 have a1 : ldq s1 (qadd (some ⟨b, 0, none⟩) 1) = some (nI cb) := b1.f1 rfl
 have a2 : ldq s1 (qadd (some ⟨b, 0, none⟩) 2) = some (.slice q S.length c) := b1.f1 rfl
 refine W.dr [(0, .none, 0), (1, .none, 1), (2, .none, 3), (3, .reads, 7), (4, .none, 0), (5, .none, 16), (6, .none, 48), (7, .reads, 112), (8, .none, 0), (9, .acts, 511), (10, .makes, 0), (11, .acts, 2047)] (by kernel_rfl) rfl (run1 ?_)
 refine Wd.val rfl (Xv.nilC rfl) rfl (Nat.le_refl _) (run1 ?_)
 refine Wd.val rfl (Xv.nilC rfl) rfl (Nat.le_refl _) (run1 ?_)
 have hc := rcode4_ok (c := c) (d := d) hcb w1 (hT.kpN w0 (k1.mono fun _ h => absurd h id)) (ha.kn w0 k1) hS hl (hm.kn w0 k1) hM hml
 rw [← hH] at hc
 refine Wd.call rfl (Xc.call ok41 rfl) rfl (hc.mono ?_)
 rintro v s2 ⟨rfl, k2⟩
 refine ⟨k2.le, ?_⟩
 have w2 : Wf s2 := k2.wf w1
 refine run1 ?_
 refine mk_gen (cs := (List.replicate 32 0).map nB) (M := fun s' => Wd _ _ _ _ _ _ s' _) fun s3 z3 m3 k3 => ?_
 have w3 : Wf s3 := k3.wf w2
 refine Wd.st rfl rfl rfl rfl rfl rfl (by rw [List.length_map, hHl]) one_nB z3 (by rw [List.length_map, List.length_replicate]; decide) fun s4 z4 m4 k4 => ?_
 rw [lov_all (by rw [List.length_map, List.length_map, hHl, List.length_replicate])] at z4
 have K4 : Kn s1 s4 := k2.call (k3.app k4 (Nat.le_refl _))
 have w4 : Wf s4 := K4.wf w1
 have b4 := b1.kp w1 K4 id
 have l4 := z4.all (n := 32) (by rw [List.length_map, hHl]) (by decide)
 have a4 : ldq s4 (qadd (some ⟨b, 0, none⟩) 4) = some (.slice none 0 0) := b4.f1 rfl
 have gz : good (some ⟨s2.nx, 0, none⟩) := good_b
 refine run1 ?_
 refine W.dr [(1, .none, 0), (2, .none, 2), (3, .none, 6), (4, .reads, 14), (5, .none, 0), (6, .reads, 0), (7, .acts, 126), (0, .none, 0), (8, .none, 255), (9, .none, 511), (10, .acts, 1023)] (by kernel_rfl) rfl (run1 ?_)
 refine Wd.val rfl (Xv.nilC rfl) rfl (Nat.le_refl _) (run1 ?_)
 refine Wd.read rfl (Xv.ldN rfl rfl rfl l4) rfl eqV_h ⟨Xv.ldN rfl rfl rfl l4, trivial⟩ ?_
 refine Wd.call rfl (Xc.call ok42 rfl) rfl ((rnote0_ok w4 (hm.kn w0 (k1.call K4)) hml hHl).mono ?_)
 rintro v s5 ⟨q5, c5, δ, u, rfl, d5, g5, qu, cu, γu, rfl, gu, lu, k5⟩
 refine ⟨k5.le, ?_⟩
 have w5 : Wf s5 := k5.wf w4
 have b5 := b4.kp w4 k5 id
 refine run1 ?_
 refine Wd.val rfl (Xv.nilC rfl) rfl (Nat.le_refl _) (run1 ?_)
 refine Wd.st (o := 4) (vs := [.slice q5 1 c5]) rfl rfl rfl rfl rfl rfl rfl (fun v hv => by rw [List.mem_singleton] at hv; subst hv; rfl) b5 (by show 5 ≤ 6; decide) fun s6 b6 m6 k6 => ?_
 have b6 : Rw s6 b (rbV nb cb (.slice q S.length c) x0 (.slice q5 1 c5) x2) γ := b6
 have w6 : Wf s6 := k6.wf w5
 have e1 := k1.le
 have e4 := K4.le
 have e5 := k5.le
 have e2 := k2.le
 have e3 := k3.le
 have l6 := ((z4.kp w4 k5 id).kp w5 k6 (by omega)).all (n := 32) (by rw [List.length_map, hHl]) (by decide)
 have y6 := (z1.kp w1 (K4.call k5) id).kp w5 k6 (by omega)
 have g6 := g5.kp w5 k6 (by omega)
 have u6 := gu.kp w5 k6 (by omega)
 refine run1 ?_
 refine Wo.st rfl rfl rfl rfl rfl rfl (by rw [List.length_map, hHl]) one_nB y6 (by rw [List.length_map, List.length_replicate]; decide) fun s7 r7 n7 k7 => ?_
 rw [lov_all (by rw [List.length_map, List.length_map, hHl, List.length_replicate])] at r7
 have lu6 := gu.ltq w5
 have K7 : Kp (fun c => c = γ) s s7 := by
  have h1 : Kp (fun c => c = γ) s s6 := ((k1.call (K4.call k5)).mono fun _ h => absurd h id).trans k6
  exact Kp.late h1 k7 (by omega)
 have b7 := b6.kp w6 k7 (by omega)
 have g7 := g6.kp w6 k7 (by omega)
 have u7 := u6.kp w6 k7 (by omega)
 refine run1 ?_
 have hcl := cell_at (B := B) (t := 23) (n := 32) (k := .ar 32 5) rfl rfl r7 (by rw [List.length_map, hHl]) rfl
 refine Lv.ret (vs := [hsh H]) ?_ ⟨rfl, K7, q5, c5, δ, qu, cu, γu, b7, by omega, g7, u7, by omega⟩
 show (match cell1 B.P (.pointer (some ⟨s.nx, 0, none⟩)) 23 s7, some [] with | some v, some vs => some (v :: vs) | _, _ => none) = _
 rw [hcl]; rfl
open Go Go.Ev Go.Sy
set_option maxRecDepth 100000
variable {s : St} {qs : Option Addr} {cS : Nat} {S : List Nat}
theorem rwrite_no {k c q : Int} {P R : List Nat} {Q : Option Addr} {xs : List Ch} {C : Nat} {bp : Value} (w0 : Wf s) (hP : P.length = 32) (hR : R.length = 32) (h : RcOk s Q xs) (hm : ¬ mayR k c q xs) :
  Cl B (.call 8 [bp, .agg ⟨rcV k c q P R (.slice Q xs.length C)⟩]) s fun v s' => v = .tuple ⟨[.slice none 0 0, hsh (List.replicate 32 0), nI 2]⟩ ∧ Kn s s' := by
 refine Cl.enter Tryz.f8 fn8 rfl rfl rfl ?_
 refine run1 ?_
 obtain ⟨z, hz⟩ : ∃ z : List Value, z = (List.replicate 32 0).map nB := ⟨_, rfl⟩
 obtain ⟨s2, b, f1, f2, hb, r2, z2, n2, k2⟩ := two_mk (cs := rcV k c q P R (.slice Q xs.length C)) (ds := z) w0
 rw [show mkRow (mkRow s _) _ = s2 from (by rw [← f1, hz]; rfl), show (mkRow s _).nx = b from f2]
 have w2 : Wf s2 := k2.wf w0
 have gd : good (some ⟨s.nx, 0, none⟩) := good_b
 have lr := r2.all (n := 68) (rc_len hP hR) (by decide)
 refine run1 ?_
 refine Wo.call rfl (Xc.call ok7 rfl) rfl ((rbody_no w2 hP hR (h.kn w0 k2) hm).mono ?_)
 rintro v s3 ⟨rfl, k3⟩
 refine run1 ?_
 refine Wo.val rfl (Xv.buildA (cs := (List.replicate 32 0).map nB) rfl rfl rfl) rfl ?_
 rw [← hz]
 have z3 := z2.kp w2 k3 id
 have hzl : z.length = 32 := by rw [hz]; rfl
 have ho : ∀ v ∈ z, one v = true := by rw [hz]; exact one_nB
 refine run1 ?_
 refine Wo.st rfl rfl rfl rfl rfl rfl hzl ho z3 (by rw [hzl]; decide) fun s4 r4 n4 k4 => ?_
 rw [lov_all rfl] at r4
 refine run1 ?_
 have hcl := cell_at (B := B) (t := 23) (n := 32) (k := .ar 32 5) rfl rfl r4 hzl rfl
 refine Lv.ret (vs := [.slice none 0 0, .agg ⟨z⟩, nI 2]) ?_ ⟨by rw [hz]; rfl, (k2.call k3).app k4 (by omega)⟩
 show (match some (Value.slice none 0 0), (match cell1 B.P (.pointer (some ⟨b, 0, none⟩)) 23 s4, some [nI 2] with | some v, some vs => some (v :: vs) | _, _ => none) with | some v, some vs => some (v :: vs) | _, _ => none) = _
 rw [hcl]
open Go Go.Ev Go.Sy
set_option maxRecDepth 100000
theorem hd_byte {base n : Nat} (hb : base ≤ 192) (hn : n < 2 ^ 40) : ∀ x ∈ hd base n, x < 256 := by
 intro x hx
 unfold hd at hx
 split at hx
 ·rw [List.mem_singleton] at hx; omega
 ·have := dgs_len (k := 5) (n := n) (by omega)
  rcases List.mem_cons.1 hx with rfl | hx
  ·omega
  ·exact dgs_byte x hx
theorem fS_byte {A : List Nat} (h : A.length < 2 ^ 40) (hA : ∀ x ∈ A, x < 256) : ∀ x ∈ fS A, x < 256 := by
 intro x hx
 unfold fS at hx
 split at hx
 ·exact hA x hx
 ·rcases List.mem_append.1 hx with hx | hx
  ·exact hd_byte (by decide) h x hx
  ·exact hA x hx
theorem fL_byte {A : List Nat} (h : A.length < 2 ^ 40) (hA : ∀ x ∈ A, x < 256) : ∀ x ∈ fL A, x < 256 := by
 intro x hx
 unfold fL at hx
 rcases List.mem_append.1 hx with hx | hx
 ·exact hd_byte (by decide) h x hx
 ·exact hA x hx
theorem chf_byte {x : Ch} (h : chM x) (hk : ∀ y ∈ x.k, y < 256) (hv : ∀ y ∈ x.v, y < 256) : ∀ y ∈ chf x, y < 256 := by
 have h1 := h.1
 have h2 := h.2.1
 have h3 := (chf_le h).1
 refine fL_byte (by omega) fun y hy => ?_
 unfold chi at hy
 rcases List.mem_append.1 hy with hy | hy
 ·exact fS_byte (by omega) hk y hy
 ·split at hy
  ·cases hy
  ·exact fS_byte (by omega) hv y hy
theorem bdy_ok {k c q : Nat} {P R : List Nat} {xs : List Ch} (hP : P.length = 32) (hR : R.length = 32) (hm : mayR k c q xs) (hPb : ∀ x ∈ P, x < 256) (hRb : ∀ x ∈ R, x < 256) (hx : ∀ x ∈ xs, (∀ y ∈ x.k, y < 256) ∧ ∀ y ∈ x.v, y < 256) :
  (bdy k c q P R xs).length ≤ 12000 ∧ ∀ x ∈ bdy k c q P R xs, x < 256 := by
 have hk2 : k ≤ 2 := by rcases hm.1 with ⟨h, _⟩ | ⟨h, _⟩ <;> omega
 have hc40 : c ≤ 1099511627776 := by have := hm.2.2.1; omega
 have hq40 : q ≤ 1099511627776 := by have := hm.2.2.2.1; omega
 have hx32 : xs.length ≤ 32 := by rcases hm.1 with ⟨_, _, h⟩ | ⟨_, _, h⟩ <;> omega
 have hmay := hm.2.2.2.2
 have hfl := flat_le hmay
 have hdk := dgs_len (k := 8) (n := k) (by omega)
 have hdc := dgs_len (k := 8) (n := c) (by omega)
 have hdq := dgs_len (k := 8) (n := q) (by omega)
 have e1 := fS_le (A := dgs k) (by omega)
 have e2 := fS_le (A := dgs c) (by omega)
 have e3 := fS_le (A := dgs q) (by omega)
 have e4 := fS_le (A := P) (by omega)
 have e5 := fS_le (A := R) (by omega)
 have e6 := fL_le (A := xs.flatMap chf) (by omega)
 have hl : (fS (dgs k) ++ fS (dgs c) ++ fS (dgs q) ++ fS P ++ fS R ++ fL (xs.flatMap chf)).length ≤ 11000 := by
  simp only [List.length_append]; omega
 have e7 := fL_le (A := fS (dgs k) ++ fS (dgs c) ++ fS (dgs q) ++ fS P ++ fS R ++ fL (xs.flatMap chf)) (by omega)
 refine ⟨by unfold bdy; omega, fL_byte (by omega) fun x h => ?_⟩
 rcases List.mem_append.1 h with h | h
 ·rcases List.mem_append.1 h with h | h
  ·rcases List.mem_append.1 h with h | h
   ·rcases List.mem_append.1 h with h | h
    ·rcases List.mem_append.1 h with h | h
     ·exact fS_byte (by omega) dgs_byte x h
     ·exact fS_byte (by omega) dgs_byte x h
    ·exact fS_byte (by omega) dgs_byte x h
   ·exact fS_byte (by omega) hPb x h
  ·exact fS_byte (by omega) hRb x h
 ·refine fL_byte (by omega) (fun y hy => ?_) x h
  obtain ⟨z, h1, h2⟩ := List.mem_flatMap.1 hy
  exact chf_byte (hmay z h1) (hx z h1).1 (hx z h1).2 y h2
open Go Go.Ev Go.Sy
set_option maxRecDepth 100000
variable {s : St} {q r : Option Addr} {c d : Nat} {M N : List Nat}
theorem whole_ok {b o : Nat} {R X : List Nat} (ha : Bs s (some ⟨b, o, none⟩) (R ++ X)) (hX : X.length = 3) (hc : capOf c = R.length + 3) (hs : capSure c = true → c = sure (capOf c)) (hb : Bs s r N) (hR : R.length < 2 ^ 60) (hN : N.length < 2 ^ 60) :
  Cl B (.call 38 [.slice (some ⟨b, o, none⟩) R.length c, .slice r N.length d]) s fun v s' => v = .bool (decide (R = N ∧ X = [77, 78, 79])) ∧ s' = s := by
 refine Cl.enter Tryz.f38 fn38 rfl rfl rfl ?_
 by_cases h1 : R.length ≠ N.length
 ·refine run1 ?_
  exact Lv.ret rfl ⟨congrArg Value.bool (decide_eq_false fun h => h1 (congrArg _ h.1)).symm, rfl⟩
 ·refine run1 ?_
  refine Wo.call (gT' rfl h1) (Xc.call ok11 rfl) rfl ((same_ok ha.left hb hR hN).mono ?_)
  rintro v s' ⟨rfl, rfl⟩
  by_cases h2 : R = N
  ·have h3 : N.length = R.length := by rw [h2]
   have x0 : (R ++ X).length = R.length + 3 := by rw [List.length_append, hX]
   have gd : ∀ i, (R ++ X).getD (N.length + i) 0 = X.getD i 0 := fun i => by
    rw [h3, List.getD_eq_getElem?_getD, List.getElem?_append_right (by omega), Nat.add_sub_cancel_left, List.getD_eq_getElem?_getD]
   have hX3 : X = [77, 78, 79] ↔ X.getD 0 0 = 77 ∧ X.getD 1 0 = 78 ∧ X.getD 2 0 = 79 := by
    obtain ⟨a, X, rfl⟩ := List.exists_cons_of_length_eq_add_one (show X.length = 2 + 1 from hX)
    obtain ⟨b', X, rfl⟩ := List.exists_cons_of_length_eq_add_one (show X.length = 1 + 1 by simpa using hX)
    obtain ⟨e, X, rfl⟩ := List.exists_cons_of_length_eq_add_one (show X.length = 0 + 1 by simpa using hX)
    obtain rfl : X = [] := List.eq_nil_of_length_eq_zero (by simpa using hX)
    simp
   refine run1 ?_
   refine Wo.val rfl (Xv.sl0 rfl rfl rfl rfl (by omega) hs) rfl ?_
   have e0 : (R ++ X).getD N.length 0 = X.getD 0 0 := gd 0
   by_cases k0 : (R ++ X).getD N.length 0 = 77
   ·by_cases k1 : (R ++ X).getD (N.length + 1) 0 = 78
    ·refine run1 ?_
     refine Lv.ret rfl ⟨congrArg Value.bool (decide_eq_decide.2 ?_), rfl⟩
     rw [hX3, ← gd 2, ← gd 1, ← e0]
     exact ⟨fun h => ⟨h2, k0, k1, h⟩, fun h => h.2.2.2⟩
    ·refine run1 ?_
     exact Lv.ret rfl ⟨congrArg Value.bool (decide_eq_false fun h => k1 (by rw [gd 1]; exact (hX3.1 h.2).2.1)).symm, rfl⟩
   ·refine run1 ?_
    exact Lv.ret rfl ⟨congrArg Value.bool (decide_eq_false fun h => k0 (by rw [e0]; exact (hX3.1 h.2).1)).symm, rfl⟩
  ·refine run1 ?_
   exact Lv.ret rfl ⟨congrArg Value.bool (decide_eq_false fun h => h2 h.1).symm, rfl⟩
end Go.Proofs.YteldpcbhfbgomaaGreatDoor
