import Derived.Test.YteldpcbhfbgomaaGreatDoorJyzz
namespace Go.Proofs.YteldpcbhfbgomaaGreatDoor
open Go Go.Ev Go.Sy
set_option maxRecDepth 100000
variable {s : St}
theorem rc_one {k c q : Int} {P R : List Nat} {y : Option Addr} {n m : Nat} : ∀ v ∈ rcV k c q P R (.slice y n m), one v = true := fun v hv => by
 simp only [rcV, List.mem_cons, List.mem_append, List.not_mem_nil, or_false] at hv
 rcases hv with rfl | rfl | rfl | hv | hv | rfl
 ·rfl
 ·rfl
 ·rfl
 ·exact one_nB v hv
 ·exact one_nB v hv
 ·rfl
theorem cv_mem {xs ys : List Ch} (h : ys.map cv = xs.map cv) {y : Ch} (hy : y ∈ ys) : ∃ x ∈ xs, y.k = x.k ∧ y.v = x.v ∧ y.g = x.g := by
 have : cv y ∈ xs.map cv := by rw [← h]; exact List.mem_map_of_mem hy
 obtain ⟨x, hx, e⟩ := List.mem_map.1 this
 unfold cv at e
 injection e with e1 e2
 injection e2 with e2 e3
 exact ⟨x, hx, e1.symm, e2.symm, e3.symm⟩
theorem mayR_cv {k c q : Int} {xs ys : List Ch} (h : ys.map cv = xs.map cv) (hm : mayR k c q xs) : mayR k c q ys := by
 have hl : ys.length = xs.length := by have := congrArg List.length h; simpa using this
 obtain ⟨h1, h2, h3, h4, h5⟩ := hm
 refine ⟨by rw [hl]; exact h1, h2, h3, h4, fun y hy => ?_⟩
 obtain ⟨x, hx, e1, e2, e3⟩ := cv_mem h hy
 have := h5 x hx
 unfold chM at this ⊢
 rw [e1, e2, e3]; exact this
theorem z68 : (rcV 0 0 0 (List.replicate 32 0) (List.replicate 32 0) (.slice none 0 0)).length = 68 := rfl
set_option maxHeartbeats 4000000 in
theorem law_no {z k c q : Int} {P R : List Nat} {Q : Option Addr} {xs : List Ch} {C : Nat} (w0 : Wf s) (hT : TabAt s) (hz : In64 z) (hP : P.length = 32) (hR : R.length = 32) (h : RcOk s Q xs) (hx : ∀ x ∈ xs, (∀ y ∈ x.k, y < 256) ∧ ∀ y ∈ x.v, y < 256) (hl : ∀ x ∈ xs, x.k.length < 2 ^ 47 - 1024 ∧ x.v.length < 2 ^ 47 - 1024) (hn : xs.length * 56 ≤ 2 ^ 47) (hm : ¬ mayR k c q xs) :
  Cl B (.call 3 [I z, .agg ⟨rcV k c q P R (.slice Q xs.length C)⟩]) s fun v _ => v = .bool true := by
 refine Cl.enter Tryz.f3 fn3 rfl rfl rfl ?_
 refine run1 ?_
 refine mk_gen (cs := rcV k c q P R (.slice Q xs.length C)) (M := fun s' => Wo _ _ _ _ _ s' _) fun s1 r1 n1 k1 => ?_
 have w1 : Wf s1 := k1.wf w0
 obtain ⟨b3, hb3⟩ : ∃ b, b = s.nx := ⟨_, rfl⟩
 rw [← hb3] at r1 ⊢
 have g3 : good (some ⟨b3, 0, none⟩) := good_b
 refine run1 ?_
 refine Wo.call rfl (Xc.call ok4 rfl) rfl ((books_ok w1 hz).mono ?_)
 rintro v s2 ⟨cb, b, r1', r2', r3', a, u, rfl, K⟩
 have w2 : Wf s2 := K.kn.wf w1
 have l2 := (r1.kp w1 K.kn id).all (n := 68) (rc_len hP hR) (by decide)
 refine run1 ?_
 have k02 : Kn s s2 := k1.call K.kn
 refine Wo.call rfl (Xc.call ok5 rfl) rfl ((copyR_ok w2 hP hR (h.kn w0 k02) hl hn).mono ?_)
 rintro v s3 ⟨bl, bm, ys, rfl, cp, k3⟩
 have w3 : Wf s3 := k3.wf w2
 have hys : ys.length = xs.length := cp.len
 refine run1 ?_
 refine mk_gen (cs := rcV 0 0 0 (List.replicate 32 0) (List.replicate 32 0) (.slice none 0 0)) (M := fun s' => Wo _ _ _ _ _ s' _) fun s4 p4 n4 k4 => ?_
 have w4 : Wf s4 := k4.wf w3
 refine Wo.st rfl rfl rfl rfl rfl rfl (rc_len hP hR) rc_one p4 (by rw [z68]; decide) fun s5 p5 n5 k5 => ?_
 rw [lov_all (by rw [rc_len hP hR, z68])] at p5
 have K35 : Kn s3 s5 := k4.app k5 (Nat.le_refl _)
 have k05 : Kn s s5 := k02.call (k3.call K35)
 have w5 : Wf s5 := K35.wf w3
 obtain ⟨b7, hb7⟩ : ∃ b, b = s3.nx := ⟨_, rfl⟩
 rw [← hb7] at p5 ⊢
 have g7 : good (some ⟨b7, 0, none⟩) := good_b
 have T5 : TabAt s5 := hT.kpN w0 (k05.mono fun _ h => absurd h id)
 refine run1 ?_
 refine Wo.val rfl (Xv.pEq rfl rfl rfl) rfl (run1 ?_)
 refine Wo.call rfl (Xc.call ok6 rfl) rfl ((fixed_ok T5).mono ?_)
 rintro v s' ⟨rfl, e'⟩
 rw [e']; clear e' s'
 refine run1 ?_
 obtain ⟨Z, hZ⟩ : ∃ Z : List Nat, Z = List.replicate 32 0 := ⟨_, rfl⟩
 have hZl : Z.length = 32 := by rw [hZ]; rfl
 have hmy : ¬ mayR k c q ys := fun e => hm (mayR_cv cp.same.symm e)
 have l3 : ∀ {t : St}, Kn s1 t → ldn t (some ⟨b3, 0, none⟩) 68 = some (rcV k c q P R (.slice Q xs.length C)) := fun kk => (r1.kp w1 kk id).all (n := 68) (rc_len hP hR) (by decide)
 have l7 : ∀ {t : St}, Kn s5 t → ldn t (some ⟨b7, 0, none⟩) 68 = some (rcV k c q P R (.slice (some ⟨bl, 0, none⟩) xs.length (sure (xs.length + 1)))) := fun kk => (p5.kp w5 kk id).all (n := 68) (rc_len hP hR) (by decide)
 have k15 : Kn s1 s5 := K.kn.call (k3.call K35)
 have tk : ∀ {t : St}, Kn s t → TabAt t := fun kk => hT.kpN w0 (kk.mono fun _ h => absurd h id)
 have cq : ∀ {t : St}, Kn s5 t → RcOk t (some ⟨bl, 0, none⟩) ys := fun kk => (cp.rc hx h.len).kn w3 (K35.call kk)
 have jb := fun {t : St} (wt : Wf t) (kk : Kn s5 t) => jbody_no (C := sure (xs.length + 1)) wt (tk (k05.call kk)) hP hR (cq kk) hmy
 have jw := fun {t : St} (wt : Wf t) (kk : Kn s5 t) => jwrite_no (b := b) (C := sure (xs.length + 1)) wt (tk (k05.call kk)) hP hR (cq kk) hmy
 rw [hys, ← hZ] at jw
 rw [hys] at jb
 have L5 := l3 k15
 refine run1 ?_
 refine Wo.call rfl (Xc.call ok7 rfl) rfl ((rbody_no w5 hP hR (h.kn w0 k05) hm).mono ?_)
 rintro v s6 ⟨rfl, k6⟩
 have w6 : Wf s6 := k6.wf w5
 have L6 := l3 (k15.call k6)
 refine run1 ?_
 have rwn := rwrite_no (C := C) (bp := .pointer (some ⟨a, 0, none⟩)) w6 hP hR (h.kn w0 (k05.call k6)) hm
 rw [← hZ] at rwn
 refine Wo.call rfl (Xc.call ok8 rfl) rfl (rwn.mono ?_)
 rintro v s7 ⟨rfl, k7⟩
 have w7 : Wf s7 := k7.wf w6
 refine run1 ?_
 refine mk_gen (cs := (List.replicate 32 0).map nB) (M := fun s' => Wo _ _ _ _ _ s' _) fun s8 p8 n8 k8 => ?_
 have w8 : Wf s8 := k8.wf w7
 rw [← hZ] at p8
 refine Wo.st rfl rfl rfl rfl rfl rfl (by rw [List.length_map, hZl]) one_nB p8 (by rw [List.length_map, hZl]; decide) fun s9 p9 n9 k9 => ?_
 rw [lov_all rfl] at p9
 have K79 : Kn s7 s9 := k8.app k9 (Nat.le_refl _)
 have w9 : Wf s9 := K79.wf w7
 obtain ⟨b11, hb11⟩ : ∃ b, b = s7.nx := ⟨_, rfl⟩
 rw [← hb11] at p9 ⊢
 have k59 : Kn s5 s9 := k6.call (k7.call K79)
 have L9 := l7 k59
 refine run1 ?_
 refine Wo.call rfl (Xc.call ok9 rfl) rfl ((jb w9 k59).mono ?_)
 rintro v sa ⟨rfl, ka⟩
 have wa : Wf sa := ka.wf w9
 have k5a := k59.call ka
 have La := l7 k5a
 refine run1 ?_
 refine Wo.call rfl (Xc.call ok10 rfl) rfl ((jw wa k5a).mono ?_)
 rintro v sb ⟨rfl, kb⟩
 have wb : Wf sb := kb.wf wa
 refine run1 ?_
 refine mk_gen (cs := (List.replicate 32 0).map nB) (M := fun s' => Wo _ _ _ _ _ s' _) fun sc pc nc kc => ?_
 have wc : Wf sc := kc.wf wb
 rw [← hZ] at pc
 refine Wo.st rfl rfl rfl rfl rfl rfl (by rw [List.length_map, hZl]) one_nB pc (by rw [List.length_map, hZl]; decide) fun sd pd nd kd => ?_
 rw [lov_all rfl] at pd
 have Kbd : Kn sb sd := kc.app kd (Nat.le_refl _)
 have wd : Wf sd := Kbd.wf wb
 obtain ⟨b16, hb16⟩ : ∃ b, b = sb.nx := ⟨_, rfl⟩
 rw [← hb16] at pd ⊢
 have K9d : Kn s9 sd := ka.call (kb.call Kbd)
 have k5d : Kn s5 sd := k59.call K9d
 have H11 := (p9.kp w9 K9d id).all (n := 32) (by rw [List.length_map, hZl]) (by decide)
 have H16 := pd.all (n := 32) (by rw [List.length_map, hZl]) (by decide)
 have nl : ∀ {t : St}, Bs t none [] := .inl ⟨rfl, .inl rfl⟩
 have same0 := fun {t : St} => same_ok (s := t) (M := []) (N := []) (c := 0) (d := 0) nl nl (by decide) (by decide)
 have h22 : ¬ (2 : Nat) ≠ 2 := fun h => h rfl
 have hZZ : ¬ Z ≠ Z := fun h => h rfl
 refine run1 ?_
 refine Wo.call rfl (Xc.call ok11 rfl) rfl (same0.mono ?_)
 rintro v s' ⟨rfl, e'⟩
 rw [e', decide_eq_true rfl]; clear e' s'
 refine run1 ?_
 refine Wo.call (gT' rfl h22) (Xc.call ok11 rfl) rfl (same0.mono ?_)
 rintro v s' ⟨rfl, e'⟩
 rw [e', decide_eq_true rfl]; clear e' s'
 refine run1 ?_
 refine Wo.val rfl (Xv.neH HH HG rfl rfl hZl hZl) rfl (run1 ?_)
 have Ld := l7 k5d
 refine run1 ?_
 refine Wo.call rfl (Xc.call ok9 rfl) rfl ((jb wd k5d).mono ?_)
 rintro v se ⟨rfl, ke⟩
 have we : Wf se := ke.wf wd
 have k5e := k5d.call ke
 have Le := l7 k5e
 refine run1 ?_
 refine Wo.call rfl (Xc.call ok10 rfl) rfl ((jw we k5e).mono ?_)
 rintro v sf ⟨rfl, kf⟩
 have wf : Wf sf := kf.wf we
 refine run1 ?_
 refine mk_gen (cs := (List.replicate 32 0).map nB) (M := fun s' => Wo _ _ _ _ _ s' _) fun sg pg ng kg => ?_
 have wg : Wf sg := kg.wf wf
 rw [← hZ] at pg
 refine Wo.st rfl rfl rfl rfl rfl rfl (by rw [List.length_map, hZl]) one_nB pg (by rw [List.length_map, hZl]; decide) fun sh ph nh kh => ?_
 have Kfh : Kn sf sh := kg.app kh (Nat.le_refl _)
 have k5h : Kn s5 sh := k5e.call (kf.call Kfh)
 have wh : Wf sh := k5h.wf w5
 refine run1 ?_
 refine Wo.call rfl (Xc.call ok11 rfl) rfl (same0.mono ?_)
 rintro v s' ⟨rfl, e'⟩
 rw [e', decide_eq_true rfl]; clear e' s'
 refine run1 ?_
 refine Wo.call rfl (Xc.call ok11 rfl) rfl (same0.mono ?_)
 rintro v s' ⟨rfl, e'⟩
 rw [e', decide_eq_true rfl]; clear e' s'
 refine run1 ?_
 refine mk_gen (cs := [.slice none 0 0, .slice none 0 0, .slice none 0 0, .slice none 0 0]) (M := fun s' => Wo _ _ _ _ _ s' _) fun si pi ni ki => ?_
 have wi : Wf si := ki.wf wh
 have ap := apart_ok (c := sure 4) (cs := [.slice none 0 0, .slice none 0 0, .slice none 0 0, .slice none 0 0]) (m := 4) (Q := fun _ => none) (C := fun _ => 0) (γ := fun _ => 0) (L := fun _ => []) wi (pi.sl (o := 0) (n := 4) (Nat.le_refl _)) rfl (by decide)
  (fun i hi => by match i, hi with | 0, _ => rfl | 1, _ => rfl | 2, _ => rfl | 3, _ => rfl) (fun _ _ => .nil) (fun _ _ => by show 0 < 2 ^ 40; decide) (fun _ _ _ _ _ e => absurd rfl e) (fun _ _ e => absurd rfl e) ⟨(pi.lt wi).2, fun _ _ e => absurd rfl e⟩
 refine Wo.call rfl (Xc.call ok12 rfl) rfl (ap.mono ?_)
 rintro v sj ⟨rfl, kj⟩
 have wj : Wf sj := kj.wf wi
 have Kj : Kn sh sj := Kp.new ki (kj.mono fun c e => by rcases e with ⟨_, _, e, _⟩ | e; (· exact absurd rfl e); exact e) ki.le
 have k5j : Kn s5 sj := k5h.call Kj
 have k2j : Kn s2 sj := k3.call (K35.call k5j)
 refine run1 ?_
 refine Wo.call rfl (Xc.call ok13 rfl) rfl ((len_ok wj (K.book.kp w2 k2j id) rfl).mono ?_)
 rintro v sk ⟨rfl, kk⟩
 have wk : Wf sk := kk.wf wj
 have hb2 := (K.book.lt w2).1
 have ha2 := (K.ref.lt w2).1
 have e3 := K35.le
 have e03 := k3.le
 have hlt := K.lt
 have h01 := k1.le
 have lta := K.lta
 have M3 : ldn sk (some ⟨b3, 0, none⟩) 68 = some (rcV k c q P R (.slice Q xs.length C)) := ((r1.kp w1 (k15.call k5j) id).kp wj kk (by omega)).all (n := 68) (rc_len hP hR) (by decide)
 have M7 : ldn sk (some ⟨b7, 0, none⟩) 68 = some (rcV k c q P R (.slice (some ⟨bl, 0, none⟩) xs.length (sure (xs.length + 1)))) := ((p5.kp w5 k5j id).kp wj kk (by omega)).all (n := 68) (rc_len hP hR) (by decide)
 have cpk : Cpy s2.nx sk xs ys bl bm := (cp.kp w3 (K35.call k5j) (fun _ _ _ h => h)).kp wj kk (fun c h1 _ h => by omega)
 have k1k : Kp (fun c => s.nx ≤ c) s sk := ((k05.call k5j).mono fun _ h => absurd h id).trans (kk.mono fun c h => by omega)
 have hk : RcOk sk Q xs := ⟨At.kpN h.at' w0 k1k, fun x hx' => by
  obtain ⟨⟨q1, c1, e1, a1, a2⟩, ⟨q2, c2, e2, a3, a4⟩, a5, a6⟩ := h.ok x hx'
  exact ⟨⟨q1, c1, e1, At.kpN a1 w0 k1k, a2⟩, ⟨q2, c2, e2, At.kpN a3 w0 k1k, a4⟩, a5, a6⟩, h.len⟩
 have ga : good (some ⟨a, 0, none⟩) := good_b
 refine run1 ?_
 refine Wo.call rfl (Xc.call ok14 rfl) rfl ((wholeR_ok wk hP hR hk cpk hx).mono ?_)
 rintro v sl ⟨rfl, kl⟩
 have ra := (((K.ref.kp w2 k2j id).kp wj kk (by omega)).kp wk kl id)
 have A4 : ldq sl (qadd (some ⟨a, 0, none⟩) 4) = some (.slice none 0 0) := ra.f1 rfl
 refine run1 ?_
 refine Wo.val rfl (Xv.nilC rfl) rfl (run1 ?_)
 exact Lv.ret rfl (congrArg Value.bool (decide_eq_true rfl))
open Go Go.Ev Go.Sy
set_option maxRecDepth 100000
variable {s : St}
def chg (e : List Nat × List Nat × Bool) : List Nat := fL (fS e.1 ++ (if e.2.2 then [] else fS e.2.1))
theorem chs_cv {xs ys : List Ch} (h : ys.map cv = xs.map cv) : ys.flatMap chf = xs.flatMap chf := by
 have e : ∀ l : List Ch, l.flatMap chf = (l.map cv).flatMap chg := fun l => by rw [List.flatMap_map]; rfl
 rw [e, e, h]
theorem RcOk.kpN {t : St} {Q : Option Addr} {xs : List Ch} (h : RcOk s Q xs) (w : Wf s) (k : Kp (fun c => s.nx ≤ c) s t) : RcOk t Q xs := ⟨At.kpN h.at' w k, fun x hx => by
 obtain ⟨⟨q1, c1, e1, a1, a2⟩, ⟨q2, c2, e2, a3, a4⟩, a5, a6⟩ := h.ok x hx
 exact ⟨⟨q1, c1, e1, At.kpN a1 w k, a2⟩, ⟨q2, c2, e2, At.kpN a3 w k, a4⟩, a5, a6⟩, h.len⟩
set_option maxHeartbeats 4000000 in
theorem law_yes {z : Int} {k c q : Nat} {P R : List Nat} {Q : Option Addr} {xs : List Ch} {C : Nat} (w0 : Wf s) (hT : TabAt s) (hz : In64 z) (hP : P.length = 32) (hR : R.length = 32) (h : RcOk s Q xs) (hx : ∀ x ∈ xs, (∀ y ∈ x.k, y < 256) ∧ ∀ y ∈ x.v, y < 256) (hl : ∀ x ∈ xs, x.k.length < 2 ^ 47 - 1024 ∧ x.v.length < 2 ^ 47 - 1024) (hn : xs.length * 56 ≤ 2 ^ 47) (hPb : ∀ x ∈ P, x < 256) (hRb : ∀ x ∈ R, x < 256) (hm : mayR k c q xs) :
  Cl B (.call 3 [I z, .agg ⟨rcV k c q P R (.slice Q xs.length C)⟩]) s fun v _ => v = .bool true := by
 refine Cl.enter Tryz.f3 fn3 rfl rfl rfl ?_
 refine run1 ?_
 refine mk_gen (cs := rcV k c q P R (.slice Q xs.length C)) (M := fun s' => Wo _ _ _ _ _ s' _) fun s1 r1 n1 k1 => ?_
 have w1 : Wf s1 := k1.wf w0
 obtain ⟨b3, hb3⟩ : ∃ b, b = s.nx := ⟨_, rfl⟩
 rw [← hb3] at r1 ⊢
 have g3 : good (some ⟨b3, 0, none⟩) := good_b
 refine run1 ?_
 refine Wo.call rfl (Xc.call ok4 rfl) rfl ((books_ok w1 hz).mono ?_)
 rintro v s2 ⟨cb, b, r1', r2', r3', a, u, rfl, K⟩
 have w2 : Wf s2 := K.kn.wf w1
 have l2 := (r1.kp w1 K.kn id).all (n := 68) (rc_len hP hR) (by decide)
 refine run1 ?_
 have k02 : Kn s s2 := k1.call K.kn
 refine Wo.call rfl (Xc.call ok5 rfl) rfl ((copyR_ok w2 hP hR (h.kn w0 k02) hl hn).mono ?_)
 rintro v s3 ⟨bl, bm, ys, rfl, cp, k3⟩
 have w3 : Wf s3 := k3.wf w2
 have hys : ys.length = xs.length := cp.len
 refine run1 ?_
 refine mk_gen (cs := rcV 0 0 0 (List.replicate 32 0) (List.replicate 32 0) (.slice none 0 0)) (M := fun s' => Wo _ _ _ _ _ s' _) fun s4 p4 n4 k4 => ?_
 have w4 : Wf s4 := k4.wf w3
 refine Wo.st rfl rfl rfl rfl rfl rfl (rc_len hP hR) rc_one p4 (by rw [z68]; decide) fun s5 p5 n5 k5 => ?_
 rw [lov_all (by rw [rc_len hP hR, z68])] at p5
 have K35 : Kn s3 s5 := k4.app k5 (Nat.le_refl _)
 have k05 : Kn s s5 := k02.call (k3.call K35)
 have w5 : Wf s5 := K35.wf w3
 obtain ⟨b7, hb7⟩ : ∃ b, b = s3.nx := ⟨_, rfl⟩
 rw [← hb7] at p5 ⊢
 have g7 : good (some ⟨b7, 0, none⟩) := good_b
 have T5 : TabAt s5 := hT.kpN w0 (k05.mono fun _ h => absurd h id)
 refine run1 ?_
 refine Wo.val rfl (Xv.pEq rfl rfl rfl) rfl (run1 ?_)
 refine Wo.call rfl (Xc.call ok6 rfl) rfl ((fixed_ok T5).mono ?_)
 rintro v s' ⟨rfl, e'⟩
 rw [e']; clear e' s'
 refine run1 ?_
 obtain ⟨qs, cS, rfl, hs, -⟩ := K.sec
 obtain ⟨A, hA⟩ : ∃ A, A = bdy k c q P R xs := ⟨_, rfl⟩
 have hAy : A = bdy k c q P R ys := by rw [hA, bdy, bdy, chs_cv cp.same]
 have hmy : mayR k c q ys := mayR_cv cp.same hm
 have hxy : ∀ y ∈ ys, (∀ z ∈ y.k, z < 256) ∧ ∀ z ∈ y.v, z < 256 := fun y hy => by
  obtain ⟨x, hx', e1, e2, _⟩ := cv_mem cp.same hy
  rw [e1, e2]; exact hx x hx'
 have hAl := bdy_ok hP hR hm hPb hRb hx
 rw [← hA] at hAl
 have hA0 : A ≠ [] := fun e => by
  have := hd_pos (n := (fS (dgs k) ++ fS (dgs c) ++ fS (dgs q) ++ fS P ++ fS R ++ fL (xs.flatMap chf)).length) (base := 192)
  have h2 : A.length = 0 := by rw [e]; rfl
  rw [hA, bdy, fL, List.length_append] at h2
  omega
 obtain ⟨H, hH⟩ : ∃ H, H = cutOf (hmc S0 A) cb := ⟨_, rfl⟩
 have hHl : H.length = 32 := by rw [hH]; exact cutH
 obtain ⟨F, hF⟩ : ∃ F, F = fw (A ++ H) := ⟨_, rfl⟩
 have hFl : F.length = A.length + 39 := by rw [hF, fw, List.length_append, List.length_append, hHl]; show 7 + _ = _; omega
 have hb2 := (K.book.lt w2).1
 have ha2 := (K.ref.lt w2).1
 have e3 := K35.le
 have e03 := k3.le
 have hlt := K.lt
 have h01 := k1.le
 have lta := K.lta
 have hcb := K.bits.2
 have hb7s := (p5.lt w5).1
 have l3 : ∀ {t : St}, Kp (fun c => c = a ∨ c = b ∨ c = r2' ∨ s5.nx ≤ c) s5 t → ldn t (some ⟨b3, 0, none⟩) 68 = some (rcV k c q P R (.slice Q xs.length C)) := fun kk => ((r1.kp w1 (K.kn.call (k3.call K35)) id).kp w5 kk (by omega)).all (n := 68) (rc_len hP hR) (by decide)
 have l7 : ∀ {t : St}, Kp (fun c => c = a ∨ c = b ∨ c = r2' ∨ s5.nx ≤ c) s5 t → ldn t (some ⟨b7, 0, none⟩) 68 = some (rcV k c q P R (.slice (some ⟨bl, 0, none⟩) xs.length (sure (xs.length + 1)))) := fun kk => (p5.kp w5 kk (by omega)).all (n := 68) (rc_len hP hR) (by decide)
 have k0 : ∀ {t : St}, Kp (fun c => c = a ∨ c = b ∨ c = r2' ∨ s5.nx ≤ c) s5 t → Kp (fun c => s.nx ≤ c) s t := fun kk => (k05.mono fun _ h => absurd h id).trans (kk.mono fun c h => by have := k05.le; omega)
 have cpt : ∀ {t : St}, Kp (fun c => c = a ∨ c = b ∨ c = r2' ∨ s5.nx ≤ c) s5 t → Cpy s2.nx t xs ys bl bm := fun kk => (cp.kp w3 K35 (fun _ _ _ h => h)).kp w5 kk (fun c h1 h2 h => by omega)
 have L5 := l3 .refl
 refine run1 ?_
 refine Wo.call rfl (Xc.call ok7 rfl) rfl ((rbody_ok w5 hP hR (h.kn w0 k05) hm).mono ?_)
 rw [← hA]
 rintro v s6 ⟨_, rfl, q6, c6, γ6, rfl, g6, l6, k6⟩
 have w6 : Wf s6 := k6.wf w5
 have K56 : Kp (fun c => c = a ∨ c = b ∨ c = r2' ∨ s5.nx ≤ c) s5 s6 := k6.mono fun _ h => absurd h id
 have L6 := l3 K56
 have k26 : Kn s2 s6 := k3.call (K35.call k6)
 refine run1 ?_
 have rw0 := rwrite_ok (C := C) (S := S0) (H := H) (A := A) w6 hP hR (h.kn w0 (k05.call k6)) hm hPb hRb hx hcb (hT.kpN w0 (k0 K56)) (K.ref.kp w2 k26 id) (hs.kn w2 k26) S0_b (by decide) hA hH
 rw [← hF] at rw0
 refine Wo.call rfl (Xc.call ok8 rfl) rfl (rw0.mono ?_)
 rintro v s7 ⟨qo, co, γo, rfl, go, lo, k7, q', cc, δ, qu, cu, γu, a7, -⟩
 have w7 : Wf s7 := k7.wf w6
 have e6 := k6.le
 have e7 := k7.le
 refine run1 ?_
 refine mk_gen (cs := (List.replicate 32 0).map nB) (M := fun s' => Wo _ _ _ _ _ s' _) fun s8 p8 n8 k8 => ?_
 have w8 : Wf s8 := k8.wf w7
 refine Wo.st rfl rfl rfl rfl rfl rfl (by rw [List.length_map, hHl]) one_nB p8 (by rw [List.length_map, List.length_replicate]; decide) fun s9 p9 n9 k9 => ?_
 rw [lov_all (by rw [List.length_map, List.length_map, hHl, List.length_replicate])] at p9
 have K79 : Kn s7 s9 := k8.app k9 (Nat.le_refl _)
 have w9 : Wf s9 := K79.wf w7
 obtain ⟨b11, hb11⟩ : ∃ b, b = s7.nx := ⟨_, rfl⟩
 rw [← hb11] at p9 ⊢
 have K59 : Kp (fun c => c = a ∨ c = b ∨ c = r2' ∨ s5.nx ≤ c) s5 s9 := (K56.trans (k7.mono fun c h => .inl h)).trans (K79.mono fun _ h => absurd h id)
 have L9 := l7 K59
 refine run1 ?_
 have jb := jbody_ok (A := A) (C := sure (xs.length + 1)) w9 (hT.kpN w0 (k0 K59)) hP hR ((cpt K59).rc hx h.len) hmy hPb hRb hxy hAy
 rw [hys] at jb
 refine Wo.call rfl (Xc.call ok9 rfl) rfl (jb.mono ?_)
 rintro v sa ⟨b13, rfl, l13, p13, ka⟩
 have wa : Wf sa := ka.wf w9
 have h13 := (p13.lt wa).1
 have K5a := K59.trans (ka.mono fun _ h => absurd h id)
 have La := l7 K5a
 have e9 := K79.le
 have ea := ka.le
 refine run1 ?_
 have Ka : Kp (fun c => c = a) s6 sa := k7.trans ((K79.call ka).mono fun _ h => absurd h id)
 have Ba : Rw sa b (bkT 256 cb S0 (Go.Proofs.YteldpcbhfbgomaaGreatDoor.bl 0 r1' 0 r2' 0 r3' 0)) b := (K.book.kp w2 k26 id).kp w6 Ka (by omega)
 have hMa : Mp sa r2' [] := Mp.kp (Mp.kp K.map w2 k26 id) w6 Ka (by omega)
 have jw1 := jwrite_ok (s := sa) (b := b) (A := A) (H := H) (C := sure (xs.length + 1)) (D := fun c => c = b ∨ c = r2') (K := Coded1 cb b r1' r2' r3' sa.nx A H) wa (hT.kpN w0 (k0 K5a)) hP hR ((cpt K5a).rc hx h.len) hmy hPb hRb hxy hAy hHl (fun c h => by omega)
  (code1 w0 hT (k0 K5a) Ba hMa ⟨by omega, by omega⟩ hcb hAl.2 (by omega) hH)
 rw [hys, ← hF] at jw1
 refine Wo.call rfl (Xc.call ok10 rfl) rfl (jw1.mono ?_)
 rintro v sb ⟨b15, rfl, l15, p15, cd, kb⟩
 have wb : Wf sb := kb.wf wa
 have h15 := (p15.lt wb).1
 have eb := kb.le
 refine run1 ?_
 refine mk_gen (cs := (List.replicate 32 0).map nB) (M := fun s' => Wo _ _ _ _ _ s' _) fun sc pc nc kc => ?_
 have wc : Wf sc := kc.wf wb
 refine Wo.st rfl rfl rfl rfl rfl rfl (by rw [List.length_map, hHl]) one_nB pc (by rw [List.length_map, List.length_replicate]; decide) fun sd pd nd kd => ?_
 rw [lov_all (by rw [List.length_map, List.length_map, hHl, List.length_replicate])] at pd
 have Kbd : Kn sb sd := kc.app kd (Nat.le_refl _)
 have wd : Wf sd := Kbd.wf wb
 obtain ⟨b16, hb16⟩ : ∃ b, b = sb.nx := ⟨_, rfl⟩
 rw [← hb16] at pd ⊢
 have Kad : Kp (fun c => c = b ∨ c = r2') sa sd := kb.trans (Kbd.mono fun _ h => absurd h id)
 have K9d : Kp (fun c => c = b ∨ c = r2') s9 sd := (ka.mono fun _ h => absurd h id).trans Kad
 have K5d := K5a.trans (Kad.mono fun c (h : c = b ∨ c = r2') => show c = a ∨ c = b ∨ c = r2' ∨ s5.nx ≤ c by omega)
 have K7d : Kp (fun c => c = b ∨ c = r2') s7 sd := (K79.mono fun _ h => absurd h id).trans K9d
 have H11 := (p9.kp w9 K9d (by omega)).all (n := 32) (by rw [List.length_map, hHl]) (by decide)
 have H16 := pd.all (n := 32) (by rw [List.length_map, hHl]) (by decide)
 have g6d := (g6.kp w6 k7 (by omega)).kp w7 K7d (by omega)
 have god := go.kp w7 K7d (by omega)
 have p13d := p13.kp wa Kad (by omega)
 have p15d := p15.kp wb Kbd id
 have h00 : ¬ (0 : Nat) ≠ 0 := fun h => h rfl
 have hHH : ¬ H ≠ H := fun h => h rfl
 have sA := fun {t : St} {y : Option Addr} {bb d : Nat} (e1 : Bs t (some ⟨bb, 0, none⟩) A) (e2 : Bs t y A) => same_ok (s := t) (M := A) (N := A) (c := sure A.length) (d := d) e1 e2 (by omega) (by omega)
 have sF := fun {t : St} {y : Option Addr} {bb d : Nat} (e1 : Bs t (some ⟨bb, 0, none⟩) F) (e2 : Bs t y F) => same_ok (s := t) (M := F) (N := F) (c := sure F.length) (d := d) e1 e2 (by omega) (by omega)
 refine run1 ?_
 refine Wo.call rfl (Xc.call ok11 rfl) rfl ((sA p13d.ats g6d.sl.at).mono ?_)
 rintro v s' ⟨rfl, e'⟩
 rw [e', decide_eq_true rfl]; clear e' s'
 refine run1 ?_
 refine Wo.call (gT' rfl h00) (Xc.call ok11 rfl) rfl ((sF p15d.ats god.sl.at).mono ?_)
 rintro v s' ⟨rfl, e'⟩
 rw [e', decide_eq_true rfl]; clear e' s'
 refine run1 ?_
 refine Wo.val rfl (Xv.neH HH HG rfl rfl hHl hHl) rfl (run1 ?_)
 have Ld := l7 K5d
 refine run1 ?_
 have jb2 := jbody_ok (A := A) (C := sure (xs.length + 1)) wd (hT.kpN w0 (k0 K5d)) hP hR ((cpt K5d).rc hx h.len) hmy hPb hRb hxy hAy
 rw [hys] at jb2
 refine Wo.call rfl (Xc.call ok9 rfl) rfl (jb2.mono ?_)
 rintro v se ⟨b18, rfl, l18, p18, ke⟩
 have we : Wf se := ke.wf wd
 have h18 := (p18.lt we).1
 have K5e := K5d.trans (ke.mono fun _ h => absurd h id)
 have Le := l7 K5e
 have ed := Kbd.le
 have ee := ke.le
 refine run1 ?_
 have cde : Coded1 cb b r1' r2' r3' sa.nx A H se := cd.kp wb (Kbd.call ke) id id (fun _ _ _ h => h) hA0
 have jw2 := jwrite_ok (s := se) (b := b) (A := A) (H := H) (C := sure (xs.length + 1)) (D := fun c => c = b) (K := fun s' => Rw s' b (bkT 256 cb S0 (Go.Proofs.YteldpcbhfbgomaaGreatDoor.bl 0 r1' 0 r2' 1 r3' 0)) b) we (hT.kpN w0 (k0 K5e)) hP hR ((cpt K5e).rc hx h.len) hmy hPb hRb hxy hAy hHl (fun c h => by omega)
  (code2 w0 hT (k0 K5e) cde ⟨by omega, by omega, by omega⟩ hcb hAl.2 hA0 (by omega) hH (by omega))
 rw [hys, ← hF] at jw2
 refine Wo.call rfl (Xc.call ok10 rfl) rfl (jw2.mono ?_)
 rintro v sf ⟨b20, rfl, l20, p20, bf, kf⟩
 have wf : Wf sf := kf.wf we
 have h20 := (p20.lt wf).1
 have ef := kf.le
 refine run1 ?_
 refine mk_gen (cs := (List.replicate 32 0).map nB) (M := fun s' => Wo _ _ _ _ _ s' _) fun sg pg ng kg => ?_
 have wg : Wf sg := kg.wf wf
 refine Wo.st rfl rfl rfl rfl rfl rfl (by rw [List.length_map, hHl]) one_nB pg (by rw [List.length_map, List.length_replicate]; decide) fun sh ph nh kh => ?_
 have Kfh : Kn sf sh := kg.app kh (Nat.le_refl _)
 have wh : Wf sh := Kfh.wf wf
 have Kdh : Kp (fun c => c = b ∨ c = r2') sd sh := ((ke.mono fun _ h => absurd h id).trans (kf.mono fun c h => .inl h)).trans (Kfh.mono fun _ h => absurd h id)
 have K5h := K5d.trans (Kdh.mono fun c (h : c = b ∨ c = r2') => show c = a ∨ c = b ∨ c = r2' ∨ s5.nx ≤ c by omega)
 have eh := Kfh.le
 have p18h := (p18.kp we kf (by omega)).kp wf Kfh id
 have p20h := p20.kp wf Kfh id
 have p13h := p13d.kp wd Kdh (by omega)
 have p15h := p15d.kp wd Kdh (by omega)
 have g6h := g6d.kp wd Kdh (by omega)
 have goh := god.kp wd Kdh (by omega)
 refine run1 ?_
 refine Wo.call rfl (Xc.call ok11 rfl) rfl ((sA p18h.ats g6h.sl.at).mono ?_)
 rintro v s' ⟨rfl, e'⟩
 rw [e', decide_eq_true rfl]; clear e' s'
 refine run1 ?_
 refine Wo.call rfl (Xc.call ok11 rfl) rfl ((sF p20h.ats goh.sl.at).mono ?_)
 rintro v s' ⟨rfl, e'⟩
 rw [e', decide_eq_true rfl]; clear e' s'
 refine run1 ?_
 refine mk_gen (cs := [.slice (some ⟨b13, 0, none⟩) A.length (sure A.length), .slice (some ⟨b15, 0, none⟩) F.length (sure F.length), .slice (some ⟨b18, 0, none⟩) A.length (sure A.length), .slice (some ⟨b20, 0, none⟩) F.length (sure F.length)]) (M := fun s' => Wo _ _ _ _ _ s' _) fun si pi ni ki => ?_
 have wi : Wf si := ki.wf wh
 have ei := ki.le
 obtain ⟨Bf, hBf⟩ : ∃ f : Nat → Nat, f = fun i => match i with | 0 => b13 | 1 => b15 | 2 => b18 | _ => b20 := ⟨_, rfl⟩
 obtain ⟨Lf, hLf⟩ : ∃ f : Nat → List Nat, f = fun i => match i with | 0 => A | 1 => F | 2 => A | _ => F := ⟨_, rfl⟩
 have B0 : Bf 0 = b13 := by rw [hBf]; rfl
 have B1 : Bf 1 = b15 := by rw [hBf]; rfl
 have B2 : Bf 2 = b18 := by rw [hBf]; rfl
 have B3 : Bf 3 = b20 := by rw [hBf]; rfl
 have L0 : Lf 0 = A := by rw [hLf]; rfl
 have L1 : Lf 1 = F := by rw [hLf]; rfl
 have L2 : Lf 2 = A := by rw [hLf]; rfl
 have L3 : Lf 3 = F := by rw [hLf]; rfl
 have four : ∀ {p : Nat → Prop}, p 0 → p 1 → p 2 → p 3 → ∀ i, i < 4 → p i := fun q0 q1 q2 q3 i hi => by
  match i, hi with
  | 0, _ => exact q0
  | 1, _ => exact q1
  | 2, _ => exact q2
  | 3, _ => exact q3
 have Bge : ∀ i, i < 4 → s9.nx ≤ Bf i ∧ Bf i < sh.nx := four (by rw [B0]; omega) (by rw [B1]; omega) (by rw [B2]; omega) (by rw [B3]; omega)
 have Binj : ∀ i j, i < 4 → j < 4 → i ≠ j → Bf i ≠ Bf j := fun i j hi hj hne => by
  have e : ∀ i, i < 4 → (i = 0 ∧ Bf i = b13) ∨ (i = 1 ∧ Bf i = b15) ∨ (i = 2 ∧ Bf i = b18) ∨ (i = 3 ∧ Bf i = b20) := four (.inl ⟨rfl, B0⟩) (.inr (.inl ⟨rfl, B1⟩)) (.inr (.inr (.inl ⟨rfl, B2⟩))) (.inr (.inr (.inr ⟨rfl, B3⟩)))
  rcases e i hi with ⟨_, _⟩ | ⟨_, _⟩ | ⟨_, _⟩ | ⟨_, _⟩ <;> rcases e j hj with ⟨_, _⟩ | ⟨_, _⟩ | ⟨_, _⟩ | ⟨_, _⟩ <;> omega
 have ap := apart_ok (c := sure 4) (m := 4) (Q := fun i => some ⟨Bf i, 0, none⟩) (C := fun i => sure (Lf i).length) (γ := Bf) (L := Lf) wi (pi.sl (o := 0) (n := 4) (Nat.le_refl _)) rfl (by decide)
  (four (by rw [B0, L0]; rfl) (by rw [B1, L1]; rfl) (by rw [B2, L2]; rfl) (by rw [B3, L3]; rfl))
  (four (by rw [B0, L0]; exact (p13h.kp wh ki id).gw (by rw [List.length_map, Nat.mul_one])) (by rw [B1, L1]; exact (p15h.kp wh ki id).gw (by rw [List.length_map, Nat.mul_one])) (by rw [B2, L2]; exact (p18h.kp wh ki id).gw (by rw [List.length_map, Nat.mul_one])) (by rw [B3, L3]; exact (p20h.kp wh ki id).gw (by rw [List.length_map, Nat.mul_one])))
  (four (by rw [L0]; omega) (by rw [L1]; omega) (by rw [L2]; omega) (by rw [L3]; omega)) (fun i j hi hj hne _ _ => Binj i j hi hj hne) (fun i hi _ => by have := Bge i hi; omega) ⟨(pi.lt wi).2, fun i hi _ => by have := Bge i hi; omega⟩
 refine Wo.call rfl (Xc.call ok12 rfl) rfl (ap.mono ?_)
 rintro v sj ⟨rfl, kj⟩
 have wj : Wf sj := kj.wf wi
 have Kj : Kp (fun c => s9.nx ≤ c) sh sj := (ki.mono fun _ h => absurd h id).trans (kj.mono fun c e => by
  rcases e with ⟨i, hi, _, rfl⟩ | e
  ·exact (Bge i hi).1
  ·omega)
 have K5j := K5h.trans (Kj.mono fun c (h : s9.nx ≤ c) => show c = a ∨ c = b ∨ c = r2' ∨ s5.nx ≤ c by omega)
 refine run1 ?_
 have bj := (bf.kp wf Kfh id).kp wh Kj (by omega)
 refine Wo.call rfl (Xc.call ok13 rfl) rfl ((len_ok wj bj rfl).mono ?_)
 rintro v sk ⟨rfl, kk⟩
 have wk : Wf sk := kk.wf wj
 have K5k := K5j.trans (kk.mono fun c (h : c = b) => show c = a ∨ c = b ∨ c = r2' ∨ s5.nx ≤ c from .inr (.inl h))
 have M3 := l3 K5k
 have M7 := l7 K5k
 have ga : good (some ⟨a, 0, none⟩) := good_b
 refine run1 ?_
 refine Wo.call rfl (Xc.call ok14 rfl) rfl ((wholeR_ok wk hP hR (h.kpN w0 (k0 K5k)) (cpt K5k) hx).mono ?_)
 rintro v sl ⟨rfl, kl⟩
 have ra := ((((a7.kp w7 K7d (by omega)).kp wd Kdh (by omega)).kp wh Kj (by omega)).kp wj kk (by omega)).kp wk kl id
 have A4 : ldq sl (qadd (some ⟨a, 0, none⟩) 4) = some (.slice q' 1 cc) := ra.f1 rfl
 refine run1 ?_
 refine Wo.val rfl (Xv.nilC rfl) rfl (run1 ?_)
 exact Lv.ret rfl (congrArg Value.bool (decide_eq_true rfl))
theorem law_ok {z k c q : Int} {P R : List Nat} {Q : Option Addr} {xs : List Ch} {C : Nat} (w0 : Wf s) (hT : TabAt s) (hz : In64 z) (hP : P.length = 32) (hR : R.length = 32) (h : RcOk s Q xs) (hx : ∀ x ∈ xs, (∀ y ∈ x.k, y < 256) ∧ ∀ y ∈ x.v, y < 256) (hl : ∀ x ∈ xs, x.k.length < 2 ^ 47 - 1024 ∧ x.v.length < 2 ^ 47 - 1024) (hn : xs.length * 56 ≤ 2 ^ 47) (hPb : ∀ x ∈ P, x < 256) (hRb : ∀ x ∈ R, x < 256) :
  Cl B (.call 3 [I z, .agg ⟨rcV k c q P R (.slice Q xs.length C)⟩]) s fun v _ => v = .bool true := by
 by_cases hm : mayR k c q xs
 ·have hm' := hm
  obtain ⟨h1, h2, h3, h4, _⟩ := hm'
  obtain ⟨k', rfl⟩ : ∃ n : Nat, k = (n : Int) := ⟨k.toNat, by rcases h1 with ⟨h, _⟩ | ⟨h, _⟩ <;> omega⟩
  obtain ⟨c', rfl⟩ : ∃ n : Nat, c = (n : Int) := ⟨c.toNat, by omega⟩
  obtain ⟨q', rfl⟩ : ∃ n : Nat, q = (n : Int) := ⟨q.toNat, by rcases h1 with ⟨_, h, _⟩ | ⟨_, h, _⟩ <;> omega⟩
  exact law_yes w0 hT hz hP hR h hx hl hn hPb hRb hm
 ·exact law_no w0 hT hz hP hR h hx hl hn hm
end Go.Proofs.YteldpcbhfbgomaaGreatDoor
