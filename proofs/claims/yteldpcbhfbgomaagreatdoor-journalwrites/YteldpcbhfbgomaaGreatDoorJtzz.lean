import Derived.Test.YteldpcbhfbgomaaGreatDoorJszz
import Derived.Test.YteldpcbhfbgomaaGreatDoorKjzz
import Derived.Test.YteldpcbhfbgomaaGreatDoorWstzz
namespace Go.Proofs.YteldpcbhfbgomaaGreatDoor
open Go Go.Ev Go.Sy
set_option maxRecDepth 100000
variable {s : St} {q r : Option Addr} {c d : Nat} {M N : List Nat}
theorem roomy_own (w : Wf s) (ha : Bs s q M) (hA : M.length < 2 ^ 47 - 1024) :
  Cl B (.call 19 [.slice q M.length c]) s fun v s' => ∃ γ, Own s' v M [77, 78, 79] γ ∧ Kn s s' ∧ s.nx ≤ γ :=
 (roomy_ok w ha hA).mono fun v s' ⟨b, c', γ, h1, h2, h3, h4, h5⟩ => ⟨γ, ⟨⟨b, c', h1, h2, (cap_ok h3 (by omega)).1, (cap_ok h3 (by omega)).2⟩, by omega⟩, h4, h5⟩
def cv (x : Ch) : List Nat × List Nat × Bool := (x.k, x.v, x.g)
def Ows (N0 : Nat) (s : St) (ys : List Ch) : Prop := ∀ y ∈ ys, (∃ g, Own s y.kv y.k [77, 78, 79] g ∧ N0 ≤ g) ∧ ∃ g, Own s y.vv y.v [77, 78, 79] g ∧ N0 ≤ g
theorem Ows.kp {C : Nat → Prop} {N0 : Nat} {s' : St} {ys : List Ch} (h : Ows N0 s ys) (w : Wf s) (k : Kp C s s') (hc : ∀ c, N0 ≤ c → c < s.nx → ¬ C c) : Ows N0 s' ys := fun y hy =>
 let ⟨⟨g, h1, h2⟩, ⟨j, h3, h4⟩⟩ := h y hy
 ⟨⟨g, h1.kp w k (hc g h2 (h1.ltn w)), h2⟩, ⟨j, h3.kp w k (hc j h4 (h3.ltn w)), h4⟩⟩
def zq (m : Nat) : List Value := (List.replicate m [Value.slice none 0 0, Value.slice none 0 0, Value.bool false]).flatten
theorem zq_length (m : Nat) : (zq m).length = m * 3 := by unfold zq; rw [List.length_flatten]; simp
theorem zq_succ (m : Nat) : zq (m + 1) = [Value.slice none 0 0, Value.slice none 0 0, Value.bool false] ++ zq m := by unfold zq; rw [List.replicate_succ]; rfl
theorem lov_zq {a c : List Value} {u v w : Value} {o : Nat} (h : o = a.length) : lov (a ++ ([Value.slice none 0 0, Value.slice none 0 0, Value.bool false] ++ c)) o [u, v, w] = a ++ ([u, v, w] ++ c) := lov_app h rfl
theorem chs_len : ∀ {ys : List Ch}, (ys.map chc).flatten.length = ys.length * 3
 | [] => rfl
 | y :: ys => by rw [List.map_cons, List.flatten_cons, List.length_append, chs_len]; show 3 + _ = _; rw [List.length_cons]; omega
def mrkB : List Nat := [109, 97, 114, 107]
structure Cpy (N0 : Nat) (s : St) (xs ys : List Ch) (bl bm : Nat) : Prop where
 len : ys.length = xs.length
 same : ys.map cv = xs.map cv
 own : Ows N0 s ys
 row : Rw s bl ((ys.map chc).flatten ++ [.slice (some ⟨bm, 0, none⟩) 4 (sure 4), .slice none 0 0, .bool false]) bl
 mark : Rw s bm (mrkB.map nB) bm
 lt : N0 ≤ bl ∧ N0 ≤ bm
theorem Cpy.kp {C : Nat → Prop} {N0 : Nat} {s' : St} {xs ys : List Ch} {bl bm : Nat} (h : Cpy N0 s xs ys bl bm) (w : Wf s) (k : Kp C s s') (hc : ∀ c, N0 ≤ c → c < s.nx → ¬ C c) : Cpy N0 s' xs ys bl bm :=
 ⟨h.len, h.same, h.own.kp w k hc, h.row.kp w k (hc _ h.lt.1 (h.row.lt w).1), h.mark.kp w k (hc _ h.lt.2 (h.mark.lt w).1), h.lt⟩
set_option maxHeartbeats 1600000 in
theorem copyR_ok {k c q : Int} {P R : List Nat} {Q : Option Addr} {xs : List Ch} {C : Nat} (w0 : Wf s) (hP : P.length = 32) (hR : R.length = 32) (h : RcOk s Q xs) (hl : ∀ x ∈ xs, x.k.length < 2 ^ 47 - 1024 ∧ x.v.length < 2 ^ 47 - 1024) (hn : xs.length * 56 ≤ 2 ^ 47) :
  Cl B (.call 5 [.agg ⟨rcV k c q P R (.slice Q xs.length C)⟩]) s fun v s' => ∃ bl bm ys, v = .agg ⟨rcV k c q P R (.slice (some ⟨bl, 0, none⟩) xs.length (sure (xs.length + 1)))⟩ ∧ Cpy s.nx s' xs ys bl bm ∧ Kn s s' := by
 refine Cl.enter Tryz.f5 fn5 rfl rfl rfl ?_
 refine run1 ?_
 obtain ⟨z, hz⟩ : ∃ z : List Value, z = rcV 0 0 0 (List.replicate 32 0) (List.replicate 32 0) (.slice none 0 0) := ⟨_, rfl⟩
 have hzl : z.length = 68 := by rw [hz]; rfl
 obtain ⟨s2, b2, f1, f2, hb, r2, z2, n2, k2⟩ := two_mk (cs := rcV k c q P R (.slice Q xs.length C)) (ds := z) w0
 rw [show mkRow (mkRow s _) _ = s2 from (by rw [← f1, hz]; rfl), show (mkRow s _).nx = b2 from f2]
 have w2 : Wf s2 := k2.wf w0
 obtain ⟨b1, hb1⟩ : ∃ b, b = s.nx := ⟨_, rfl⟩
 rw [← hb1] at r2 ⊢
 have g1 : good (some ⟨b1, 0, none⟩) := good_b
 have g2 : good (some ⟨b2, 0, none⟩) := good_b
 have l5 : ldq s2 (qadd (some ⟨b1, 0, none⟩) 67) = some (.slice Q xs.length C) := r2.f1 (rc_chg hP hR)
 refine run1 ?_
 refine Wo.val rfl (Xv.make rfl rfl rfl rfl rfl (Nat.zero_le _) rfl (by omega) (by omega)) rfl ?_
 refine mk_gen (M := fun s' => Wo _ _ _ _ _ s' _) fun s3 r3 n3 k3 => ?_
 have r3' : Rw s3 s2.nx (zq (xs.length + 1)) s2.nx := r3
 have w3 : Wf s3 := k3.wf w2
 obtain ⟨bl, hbl⟩ : ∃ b, b = s2.nx := ⟨_, rfl⟩
 rw [← hbl] at r3' ⊢
 have k03 : Kn s s3 := k2.call k3
 refine run1 ?_
 refine W.loop (α := Nat × St) (fun a => [(1, .pointer (some ⟨b1, 0, none⟩)), (2, .pointer (some ⟨b2, 0, none⟩)), (3, .slice (some ⟨bl, 0, none⟩) a.1 (sure (xs.length + 1))), (4, nI a.1)]) (fun _ => []) (fun a => a.2)
  (fun a => a.1 ≤ xs.length ∧ Kn s a.2 ∧ s3.nx ≤ a.2.nx ∧ Rw a.2 b1 (rcV k c q P R (.slice Q xs.length C)) b1 ∧ Rw a.2 b2 z b2 ∧ ∃ ys, ys.length = a.1 ∧ ys.map cv = (xs.take a.1).map cv ∧ Ows s3.nx a.2 ys ∧ Rw a.2 bl ((ys.map chc).flatten ++ zq (xs.length + 1 - a.1)) bl) (fun a => xs.length - a.1) (0, s3)
  ⟨Nat.zero_le _, k03, Nat.le_refl _, r2.kp w2 k3 id, z2.kp w2 k3 id, [], rfl, rfl, fun y hy => (List.not_mem_nil hy).elim, r3'⟩ (.cons rfl (.cons rfl (.cons rfl (.cons rfl .nil)))) rfl rfl (by show xs.length - 0 < _; omega) ?_
 rintro ⟨i, t⟩ ⟨i1, kt, en, t1, t2, ys, y1, y2, y3, y4⟩
 simp only at i1 kt en t1 t2 y1 y2 y3 y4
 dsimp only
 have wt : Wf t := kt.wf w0
 have lt5 : ldq t (qadd (some ⟨b1, 0, none⟩) 67) = some (.slice Q xs.length C) := t1.f1 (rc_chg hP hR)
 by_cases hi : i < xs.length
 ·have hok := h.ok _ (List.getElem_mem hi)
  have hch := hl _ (List.getElem_mem hi)
  obtain ⟨gQ, lx⟩ := (h.kn w0 kt).kid hi
  obtain ⟨x, ex⟩ : ∃ x, x = xs[i] := ⟨_, rfl⟩
  rw [← ex] at hok hch lx
  have hone := hok.one
  obtain ⟨⟨qk, ck, ek, bk1, bk2⟩, ⟨qv, cv', ev1, bv1, bv2⟩, _, _⟩ := hok
  rw [chc, ek, ev1] at lx hone
  refine run1 ?_
  refine mk_gen (cs := [.slice none 0 0, .slice none 0 0, .bool false]) (M := fun s' => Wo _ _ _ _ _ s' _) fun t3 p3 m3 j3 => ?_
  have wt3 : Wf t3 := j3.wf wt
  refine Wo.st rfl rfl rfl rfl rfl rfl rfl hone p3 (by decide) fun t4 p4 m4 j4 => ?_
  have p4' : Rw t4 t.nx [.slice qk x.k.length ck, .slice qv x.v.length cv', .bool x.g] t.nx := p4
  have kt4 : Kn t t4 := j3.app j4 (Nat.le_refl _)
  have wt4 : Wf t4 := kt4.wf wt
  obtain ⟨b5, hb5⟩ : ∃ b, b = t.nx := ⟨_, rfl⟩
  rw [← hb5] at p4' ⊢
  have g5 : good (some ⟨b5, 0, none⟩) := good_b
  have q0 : ldq t4 (qadd (some ⟨b5, 0, none⟩) 0) = some (.slice qk x.k.length ck) := p4'.f1 rfl
  refine run1 ?_
  refine W.dr [(1, .none, 0), (2, .reads, 2), (3, .acts, 6), (4, .none, 0), (5, .reads, 16), (6, .acts, 62), (0, .none, 0), (7, .none, 0), (8, .reads, 128), (9, .none, 510), (10, .makes, 1022), (11, .acts, 2047), (12, .none, 4095)] (by kernel_rfl) rfl (run1 ?_)
  refine Wd.call rfl (Xc.call ok19 rfl) rfl ((roomy_own wt4 (bk1.kn w0 (kt.call kt4)) hch.1).mono ?_)
  rintro v t5 ⟨γk, ok1, k5, lk1⟩
  have wt5 : Wf t5 := k5.wf wt4
  have q1 : ldq t5 (qadd (some ⟨b5, 0, none⟩) 1) = some (.slice qv x.v.length cv') := (p4'.kp wt4 k5 id).f1 rfl
  have q1' : ldq t4 (qadd (some ⟨b5, 0, none⟩) 1) = some (.slice qv x.v.length cv') := p4'.f1 rfl
  refine ⟨k5.le, run1 ?_⟩
  refine Wd.call rfl (Xc.call ok19 rfl) rfl ((roomy_own wt5 (bv1.kn w0 ((kt.call kt4).call k5)) hch.2).mono ?_)
  rintro u t6 ⟨γv, ok2, k6, lv1⟩
  have wt6 : Wf t6 := k6.wf wt5
  have q2 : ldq t6 (qadd (some ⟨b5, 0, none⟩) 2) = some (.bool x.g) := ((p4'.kp wt4 k5 id).kp wt5 k6 id).f1 rfl
  have q2' : ldq t5 (qadd (some ⟨b5, 0, none⟩) 2) = some (.bool x.g) := (p4'.kp wt4 k5 id).f1 rfl
  have q2'' : ldq t4 (qadd (some ⟨b5, 0, none⟩) 2) = some (.bool x.g) := p4'.f1 rfl
  obtain ⟨bv, cv1, rfl, _⟩ := ok1.ex
  obtain ⟨bu, cu1, rfl, _⟩ := ok2.ex
  refine ⟨k6.le, run1 ?_⟩
  refine Wd.val rfl (Xv.build (cs := [.slice (some ⟨bv, 0, none⟩) x.k.length cv1, .slice (some ⟨bu, 0, none⟩) x.v.length cu1, .bool x.g]) rfl (by generalize x.g = g; cases g <;> rfl)) rfl (Nat.le_refl _) ?_
  refine Wd.make rfl (Xv.bsl (cs := [.slice (some ⟨bv, 0, none⟩) x.k.length cv1, .slice (some ⟨bu, 0, none⟩) x.v.length cu1, .bool x.g]) rfl rfl rfl (by generalize x.g = g; cases g <;> rfl)) rfl (Nat.le_succ _) ?_
  refine mk_gen (cs := [.slice (some ⟨bv, 0, none⟩) x.k.length cv1, .slice (some ⟨bu, 0, none⟩) x.v.length cu1, .bool x.g]) (M := fun s' => Wd _ _ _ _ _ _ s' _) fun t7 p7 m7 k7 => ?_
  have wt7 : Wf t7 := k7.wf wt6
  have k47 : Kn t4 t7 := k5.call (k6.call k7)
  have kt7 : Kn t t7 := kt4.call k47
  have y7 := y4.kp wt kt7 id
  obtain ⟨yv, hyv⟩ : ∃ y : Ch, y = ⟨.slice (some ⟨bv, 0, none⟩) x.k.length cv1, .slice (some ⟨bu, 0, none⟩) x.v.length cu1, x.k, x.v, x.g⟩ := ⟨_, rfl⟩
  have e6 : xs.length + 1 - i = (xs.length - i) + 1 := by omega
  rw [e6, zq_succ] at y7
  refine Wd.appc (n := i) rfl rfl rfl rfl rfl rfl rfl rfl y7 rfl (cells_at (k := 1) (size := 3) p7.ats rfl (by decide)) rfl (by intro v hv; simp at hv; rcases hv with rfl | rfl | rfl <;> rfl) rfl (by omega) (by omega) (by omega) (by rw [List.length_append, List.length_append, chs_len, zq_length, y1]; show (i + 1) * 3 ≤ i * 3 + (3 + (xs.length - i) * 3); omega) ?_
  intro t8 p8 m8 k8
  rw [lov_zq (by rw [chs_len, y1]), ← List.append_assoc] at p8
  have wt8 : Wf t8 := k8.wf wt7
  have e8 := k8.le
  have e7 := kt7.le
  have e5 := k5.le
  have e6' := k6.le
  have e47 := kt4.le
  have hb12 := (r2.lt w2).1
  have hb22 := (z2.lt w2).1
  refine run1 ?_
  refine rnd.n (i + 1, t8) ⟨hi, (kt.call kt7).app k8 (by omega), by show s3.nx ≤ t8.nx; omega, (t1.kp wt kt7 id).kp wt7 k8 (by omega), (t2.kp wt kt7 id).kp wt7 k8 (by omega), ys ++ [yv], by rw [List.length_append, y1]; rfl, ?_, ?_, ?_⟩ (by show xs.length - (i + 1) < xs.length - i; omega) (.cons rfl (.cons rfl (.cons rfl (.cons rfl .nil)))) rfl rfl
  ·show (ys ++ [yv]).map cv = (xs.take (i + 1)).map cv
   rw [List.take_succ_eq_append_getElem hi, List.map_append, List.map_append, y2, ← ex, hyv]; rfl
  ·intro y hy
   rcases List.mem_append.1 hy with hy | hy
   ·exact (Ows.kp (y3.kp wt kt7 (fun _ _ _ h => h)) wt7 k8 (fun c h1 h2 h => by omega)) y hy
   ·rw [List.mem_singleton] at hy
    rw [hy, hyv]
    exact ⟨⟨γk, (ok1.kp wt5 (k6.call k7) id).kp wt7 k8 (by omega), by omega⟩, ⟨γv, (ok2.kp wt6 k7 id).kp wt7 k8 (by omega), by omega⟩⟩
  ·show Rw t8 bl (((ys ++ [yv]).map chc).flatten ++ zq (xs.length + 1 - (i + 1))) bl
   rw [List.map_append, List.flatten_append, show xs.length + 1 - (i + 1) = xs.length - i by omega, hyv]
   exact p8
 ·have hie : i = xs.length := by omega
  subst hie
  rw [List.take_of_length_le (Nat.le_refl _)] at y2
  rw [show xs.length + 1 - xs.length = 0 + 1 by omega, zq_succ] at y4
  refine run1 ?_
  refine mk_gen (cs := mrkB.map nB) (M := fun s' => Wo _ _ _ _ _ s' _) fun t3 p3 m3 j3 => ?_
  have wt3 : Wf t3 := j3.wf wt
  obtain ⟨bm, hbm⟩ : ∃ b, b = t.nx := ⟨_, rfl⟩
  rw [← hbm] at p3 ⊢
  refine Wo.val rfl (Xv.asB rfl rfl rfl p3) rfl (run1 ?_)
  refine mk_gen (cs := [.slice (some ⟨bm, 0, none⟩) 4 (sure 4), .slice none 0 0, .bool false]) (M := fun s' => Wo _ _ _ _ _ s' _) fun t4 p4 m4 j4 => ?_
  have wt4 : Wf t4 := j4.wf wt3
  have kt4 : Kn t t4 := j3.call j4
  have y5 := y4.kp wt kt4 id
  refine Wo.appc (n := xs.length) rfl rfl rfl rfl rfl rfl rfl rfl y5 rfl (cells_at (k := 1) (size := 3) p4.ats rfl (by decide)) rfl (by intro v hv; simp at hv; rcases hv with rfl | rfl | rfl <;> rfl) rfl (by omega) (by omega) (by omega) (by rw [List.length_append, List.length_append, chs_len, zq_length, y1]; show (xs.length + 1) * 3 ≤ xs.length * 3 + (3 + 0 * 3); omega) ?_
  intro t5 p5 m5 k5
  rw [lov_zq (by rw [chs_len, y1])] at p5
  have p5' : Rw t5 bl ((ys.map chc).flatten ++ [.slice (some ⟨bm, 0, none⟩) 4 (sure 4), .slice none 0 0, .bool false]) bl := by
   rw [show ([.slice (some ⟨bm, 0, none⟩) 4 (sure 4), .slice none 0 0, .bool false] : List Value) ++ zq 0 = [.slice (some ⟨bm, 0, none⟩) 4 (sure 4), .slice none 0 0, .bool false] from List.append_nil _] at p5
   exact p5
  have wt5 : Wf t5 := k5.wf wt4
  have hb12 := (r2.lt w2).1
  have hb22 := (z2.lt w2).1
  refine run1 ?_
  refine Wo.val rfl (Xv.slH rfl rfl rfl rfl (Cap.sure (Nat.le_refl _)) (Nat.le_succ _)) rfl ?_
  refine run1 ?_
  have q1 := (t1.kp wt kt4 id).kp wt4 k5 (by omega)
  have q2 := (t2.kp wt kt4 id).kp wt4 k5 (by omega)
  refine Wo.st rfl rfl rfl rfl rfl rfl rfl (by intro v hv; rw [List.mem_singleton] at hv; rw [hv]; rfl) q1 (by rw [rc_len hP hR]; decide) fun t6 p6 m6 k6 => ?_
  have p6' : Rw t6 b1 (rcV k c q P R (.slice (some ⟨bl, 0, none⟩) xs.length (sure (xs.length + 1)))) b1 := by
   have e : ∀ x y : Value, lov (rcV k c q P R x) (0 + 67) [y] = rcV k c q P R y := fun x y => by
    rw [show rcV k c q P R x = (I k :: I c :: I q :: (P.map nB ++ R.map nB)) ++ ([x] ++ []) by simp [rcV], lov_app (b := [x]) (vs := [y]) (by simp [hP, hR]) rfl]; simp [rcV]
   rw [e] at p6
   exact p6
  have wt6 : Wf t6 := k6.wf wt5
  have l6 := p6'.all (n := 68) (rc_len hP hR) (by decide)
  refine run1 ?_
  have hoz : ∀ v ∈ rcV k c q P R (.slice (some ⟨bl, 0, none⟩) xs.length (sure (xs.length + 1))), one v = true := fun v hv => by
   simp only [rcV, List.mem_cons, List.mem_append, List.not_mem_nil, or_false] at hv
   rcases hv with rfl | rfl | rfl | hv | hv | rfl
   ·rfl
   ·rfl
   ·rfl
   ·exact one_nB v hv
   ·exact one_nB v hv
   ·rfl
  refine Wo.st rfl rfl rfl rfl rfl rfl (rc_len hP hR) hoz (q2.kp wt5 k6 (by omega)) (by rw [hzl]; decide) fun t7 p7 m7 k7 => ?_
  rw [lov_all (by rw [rc_len hP hR, hzl])] at p7
  refine run1 ?_
  have hcl := cell_at (B := B) (t := 26) (n := 68) rfl rfl p7 (rc_len hP hR) rfl
  have kf : Kn s t7 := (((kt.call kt4).app k5 (by omega)).app k6 (by omega)).app k7 (by omega)
  have hbn := (p5'.lt wt5).1
  have e5 := k5.le
  have e4 := kt4.le
  have wA : Ows s3.nx t4 ys := y3.kp wt kt4 (fun _ _ _ h => h)
  have wB : Ows s3.nx t5 ys := wA.kp wt4 k5 (fun c h1 _ h => by omega)
  have wC : Ows s3.nx t6 ys := wB.kp wt5 k6 (fun c h1 _ h => by omega)
  have wD : Ows s3.nx t7 ys := wC.kp wt6 k7 (fun c h1 _ h => by omega)
  have wE : Ows b1 t7 ys := fun y hy => by
   obtain ⟨⟨g, h1, h2⟩, ⟨j, h3, h4⟩⟩ := wD y hy
   exact ⟨⟨g, h1, by omega⟩, ⟨j, h3, by omega⟩⟩
  refine Lv.ret (vs := [.agg ⟨rcV k c q P R (.slice (some ⟨bl, 0, none⟩) xs.length (sure (xs.length + 1)))⟩]) ?_ ⟨bl, bm, ys, rfl, ⟨y1, y2, wE, (p5'.kp wt5 k6 (by omega)).kp wt6 k7 (by omega), (((p3.kp wt3 j4 id).kp wt4 k5 (by omega)).kp wt5 k6 (by omega)).kp wt6 k7 (by omega), ⟨by omega, by omega⟩⟩, kf⟩
  show (match cell1 B.P (.pointer (some ⟨b2, 0, none⟩)) 26 t7, some [] with | some v, some vs => some (v :: vs) | _, _ => none) = _
  rw [hcl]
end Go.Proofs.YteldpcbhfbgomaaGreatDoor
