import Derived.Test.YtcnhinnpieehoaaGreatDoorJszz
import Derived.Test.YtcnhinnpieehoaaGreatDoorCpzz
import Derived.Test.YtcnhinnpieehoaaGreatDoorWf1zz
import Derived.Test.YtcnhinnpieehoaaGreatDoorCazz
import Derived.Test.YtcnhinnpieehoaaGreatDoorCbzz
import Derived.Test.YtcnhinnpieehoaaGreatDoorBbzz
import Derived.Test.YtcnhinnpieehoaaGreatDoorHfzz
namespace Go.Proofs.YtcnhinnpieehoaaGreatDoor
open Go Go.Ev Go.Sy
set_option maxRecDepth 100000
variable {s : St} {q r : Option Addr} {c d : Nat} {M N : List Nat}
theorem roomy_own (w : Wf s) (ha : Bs s q M) (hA : M.length < 2 ^ 47 - 1024) :
  Cl B (.call 21 [.slice q M.length c]) s fun v s' => ∃ γ, Own s' v M [77, 78, 79] γ ∧ Kn s s' ∧ s.nx ≤ γ :=
 (roomy_ok w ha hA).mono fun v s' ⟨b, c', γ, h1, h2, h3, h4, h5⟩ => ⟨γ, ⟨⟨b, c', h1, h2, (cap_ok h3 (by omega)).1, (cap_ok h3 (by omega)).2⟩, by omega⟩, h4, h5⟩
def cv (x : Ch) : List Nat × List Nat × Bool := (x.k, x.v, x.g)
def Ows (N0 : Nat) (s : St) (ys : List Ch) : Prop := ∀ y ∈ ys, (∃ g, Own s y.kv y.k [77, 78, 79] g ∧ N0 ≤ g) ∧ ∃ g, Own s y.vv y.v [77, 78, 79] g ∧ N0 ≤ g
theorem Ows.kp {C : Nat → Prop} {N0 : Nat} {s' : St} {ys : List Ch} (h : Ows N0 s ys) (w : Wf s) (k : Kp C s s') (hc : ∀ c, N0 ≤ c → c < s.nx → ¬ C c) : Ows N0 s' ys := fun y hy =>
 let ⟨⟨g, h1, h2⟩, ⟨j, h3, h4⟩⟩ := h y hy
 ⟨⟨g, h1.kp w k (hc g h2 (h1.ltn w)), h2⟩, ⟨j, h3.kp w k (hc j h4 (h3.ltn w)), h4⟩⟩
def zq (m : Nat) : List Value := (List.replicate m [Value.slice none 0 0, Value.slice none 0 0, Value.bool false]).flatten
theorem zq_length (m : Nat) : (zq m).length = m * 3 := by unfold zq; rw [List.length_flatten]; simp
theorem zq_succ (m : Nat) : zq (m + 1) = [Value.slice none 0 0, Value.slice none 0 0, Value.bool false] ++ zq m := by unfold zq; rw [List.replicate_succ]; rfl
theorem lov_zq {a c : List Value} {u v w : Value} {o : Nat} (h : o = a.length) : lov (a ++ ([Value.slice none 0 0, Value.slice none 0 0, Value.bool false] ++ c)) o [u, v, w] = a ++ ([u, v, w] ++ c) := lov_app h rfl
theorem chs_len : ∀ {ys : List Ch}, (ys.map chc).flatten.length = ys.length * 3
 | [] => rfl
 | y :: ys => by rw [List.map_cons, List.flatten_cons, List.length_append, chs_len]; show 3 + _ = _; rw [List.length_cons]; omega
def mrkB : List Nat := [109, 97, 114, 107]
structure Cpy (N0 : Nat) (s : St) (xs ys : List Ch) (bl bm : Nat) : Prop where
 len : ys.length = xs.length
 same : ys.map cv = xs.map cv
 own : Ows N0 s ys
 row : Rw s bl ((ys.map chc).flatten ++ [.slice (some ⟨bm, 0, none⟩) 4 (sure 4), .slice none 0 0, .bool false]) bl
 mark : Rw s bm (mrkB.map nB) bm
 lt : N0 ≤ bl ∧ N0 ≤ bm
theorem Cpy.kp {C : Nat → Prop} {N0 : Nat} {s' : St} {xs ys : List Ch} {bl bm : Nat} (h : Cpy N0 s xs ys bl bm) (w : Wf s) (k : Kp C s s') (hc : ∀ c, N0 ≤ c → c < s.nx → ¬ C c) : Cpy N0 s' xs ys bl bm :=
 ⟨h.len, h.same, h.own.kp w k hc, h.row.kp w k (hc _ h.lt.1 (h.row.lt w).1), h.mark.kp w k (hc _ h.lt.2 (h.mark.lt w).1), h.lt⟩
set_option maxHeartbeats 1600000 in
theorem copyR_ok {k c q : Int} {P R : List Nat} {Q : Option Addr} {xs : List Ch} {C : Nat} (w0 : Wf s) (hP : P.length = 32) (hR : R.length = 32) (h : RcOk s Q xs) (hl : ∀ x ∈ xs, x.k.length < 2 ^ 47 - 1024 ∧ x.v.length < 2 ^ 47 - 1024) (hn : xs.length * 56 ≤ 2 ^ 47) :
  Cl B (.call 8 [.agg ⟨rcV k c q P R (.slice Q xs.length C)⟩]) s fun v s' => ∃ bl bm ys, v = .agg ⟨rcV k c q P R (.slice (some ⟨bl, 0, none⟩) xs.length (sure (xs.length + 1)))⟩ ∧ Cpy s.nx s' xs ys bl bm ∧ Kn s s' := by
 refine Cl.enter Tryz.f8 fn8 rfl rfl rfl ?_
 refine run1 ?_
 obtain ⟨z, hz⟩ : ∃ z : List Value, z = rcV 0 0 0 (List.replicate 32 0) (List.replicate 32 0) (.slice none 0 0) := ⟨_, rfl⟩
 have hzl : z.length = 68 := by rw [hz]; rfl
 obtain ⟨s2, b2, f1, f2, hb, r2, z2, n2, k2⟩ := two_mk (cs := rcV k c q P R (.slice Q xs.length C)) (ds := z) w0
 rw [show mkRow (mkRow s _) _ = s2 from (by rw [← f1, hz]; rfl), show (mkRow s _).nx = b2 from f2]
 have w2 : Wf s2 := k2.wf w0
 obtain ⟨b1, hb1⟩ : ∃ b, b = s.nx := ⟨_, rfl⟩
 rw [← hb1] at r2 ⊢
 have g1 : good (some ⟨b1, 0, none⟩) := good_b
 have g2 : good (some ⟨b2, 0, none⟩) := good_b
 have l5 : ldq s2 (qadd (some ⟨b1, 0, none⟩) 67) = some (.slice Q xs.length C) := r2.f1 (rc_chg hP hR)
 refine run1 ?_
 refine Wo.val rfl (Xv.make rfl rfl rfl rfl rfl (Nat.zero_le _) rfl (by omega) (by omega)) rfl ?_
 refine mkO fun s3 r3 n3 k3 => ?_
 have r3' : Rw s3 s2.nx (zq (xs.length + 1)) s2.nx := r3
 have w3 : Wf s3 := k3.wf w2
 obtain ⟨bl, hbl⟩ : ∃ b, b = s2.nx := ⟨_, rfl⟩
 rw [← hbl] at r3' ⊢
 have k03 : Kn s s3 := k2.call k3
 refine run1 ?_
 refine W.loop (α := Nat × St) (fun a => [(1, .pointer (some ⟨b1, 0, none⟩)), (2, .pointer (some ⟨b2, 0, none⟩)), (3, .slice (some ⟨bl, 0, none⟩) a.1 (sure (xs.length + 1))), (4, nI a.1)]) (fun _ => []) (fun a => a.2)
  (fun a => a.1 ≤ xs.length ∧ Kn s a.2 ∧ s3.nx ≤ a.2.nx ∧ Rw a.2 b1 (rcV k c q P R (.slice Q xs.length C)) b1 ∧ Rw a.2 b2 z b2 ∧ ∃ ys, ys.length = a.1 ∧ ys.map cv = (xs.take a.1).map cv ∧ Ows s3.nx a.2 ys ∧ Rw a.2 bl ((ys.map chc).flatten ++ zq (xs.length + 1 - a.1)) bl) (fun a => xs.length - a.1) (0, s3)
  ⟨Nat.zero_le _, k03, Nat.le_refl _, r2.kp w2 k3 id, z2.kp w2 k3 id, [], rfl, rfl, fun y hy => (List.not_mem_nil hy).elim, r3'⟩ (.cons rfl (.cons rfl (.cons rfl (.cons rfl .nil)))) rfl rfl (by show xs.length - 0 < _; omega) ?_
 rintro ⟨i, t⟩ ⟨i1, kt, en, t1, t2, ys, y1, y2, y3, y4⟩
 simp only at i1 kt en t1 t2 y1 y2 y3 y4
 dsimp only
 have wt : Wf t := kt.wf w0
 have lt5 : ldq t (qadd (some ⟨b1, 0, none⟩) 67) = some (.slice Q xs.length C) := t1.f1 (rc_chg hP hR)
 by_cases hi : i < xs.length
 ·have hok := h.ok _ (List.getElem_mem hi)
  have hch := hl _ (List.getElem_mem hi)
  obtain ⟨gQ, lx⟩ := (h.kn w0 kt).kid hi
  obtain ⟨x, ex⟩ : ∃ x, x = xs[i] := ⟨_, rfl⟩
  rw [← ex] at hok hch lx
  have hone := hok.one
  obtain ⟨⟨qk, ck, ek, bk1, bk2⟩, ⟨qv, cv', ev1, bv1, bv2⟩, _, _⟩ := hok
  rw [chc, ek, ev1] at lx hone
  refine run1 ?_
  refine mkO (cs := [.slice none 0 0, .slice none 0 0, .bool false]) fun t3 p3 m3 j3 => ?_
  have wt3 : Wf t3 := j3.wf wt
  refine Wo.st rfl rfl rfl rfl rfl rfl rfl hone p3 (by decide) fun t4 p4 m4 j4 => ?_
  have p4' : Rw t4 t.nx [.slice qk x.k.length ck, .slice qv x.v.length cv', .bool x.g] t.nx := p4
  have kt4 : Kn t t4 := j3.app j4 (Nat.le_refl _)
  have wt4 : Wf t4 := kt4.wf wt
  obtain ⟨b5, hb5⟩ : ∃ b, b = t.nx := ⟨_, rfl⟩
  rw [← hb5] at p4' ⊢
  have g5 : good (some ⟨b5, 0, none⟩) := good_b
  have q0 : ldq t4 (qadd (some ⟨b5, 0, none⟩) 0) = some (.slice qk x.k.length ck) := p4'.f1 rfl
  refine run1 ?_
  refine W.dr [(1, .none, 0), (2, .reads, 2), (3, .acts, 6), (4, .none, 0), (5, .reads, 16), (6, .acts, 62), (0, .none, 0), (7, .none, 0), (8, .reads, 128), (9, .none, 510), (10, .makes, 1022), (11, .acts, 2047), (12, .none, 4095)] (by kernel_rfl) rfl (run1 ?_)
  refine Wd.call rfl (Xc.call ok21 rfl) rfl ((roomy_own wt4 (bk1.kn w0 (kt.call kt4)) hch.1).mono ?_)
  rintro v t5 ⟨γk, ok1, k5, lk1⟩
  have wt5 : Wf t5 := k5.wf wt4
  have q1 : ldq t5 (qadd (some ⟨b5, 0, none⟩) 1) = some (.slice qv x.v.length cv') := (p4'.kp wt4 k5 id).f1 rfl
  have q1' : ldq t4 (qadd (some ⟨b5, 0, none⟩) 1) = some (.slice qv x.v.length cv') := p4'.f1 rfl
  refine ⟨k5.le, run1 ?_⟩
  refine Wd.call rfl (Xc.call ok21 rfl) rfl ((roomy_own wt5 (bv1.kn w0 ((kt.call kt4).call k5)) hch.2).mono ?_)
  rintro u t6 ⟨γv, ok2, k6, lv1⟩
  have wt6 : Wf t6 := k6.wf wt5
  have q2 : ldq t6 (qadd (some ⟨b5, 0, none⟩) 2) = some (.bool x.g) := ((p4'.kp wt4 k5 id).kp wt5 k6 id).f1 rfl
  have q2' : ldq t5 (qadd (some ⟨b5, 0, none⟩) 2) = some (.bool x.g) := (p4'.kp wt4 k5 id).f1 rfl
  have q2'' : ldq t4 (qadd (some ⟨b5, 0, none⟩) 2) = some (.bool x.g) := p4'.f1 rfl
  obtain ⟨bv, cv1, rfl, _⟩ := ok1.ex
  obtain ⟨bu, cu1, rfl, _⟩ := ok2.ex
  refine ⟨k6.le, run1 ?_⟩
  refine Wd.val rfl (Xv.build (cs := [.slice (some ⟨bv, 0, none⟩) x.k.length cv1, .slice (some ⟨bu, 0, none⟩) x.v.length cu1, .bool x.g]) rfl (by generalize x.g = g; cases g <;> rfl)) rfl (Nat.le_refl _) ?_
  refine Wd.make rfl (Xv.bsl (cs := [.slice (some ⟨bv, 0, none⟩) x.k.length cv1, .slice (some ⟨bu, 0, none⟩) x.v.length cu1, .bool x.g]) rfl rfl rfl (by generalize x.g = g; cases g <;> rfl)) rfl (Nat.le_succ _) ?_
  refine mk_gen (cs := [.slice (some ⟨bv, 0, none⟩) x.k.length cv1, .slice (some ⟨bu, 0, none⟩) x.v.length cu1, .bool x.g]) (M := fun s' => Wd _ _ _ _ _ _ s' _) fun t7 p7 m7 k7 => ?_
  have wt7 : Wf t7 := k7.wf wt6
  have k47 : Kn t4 t7 := k5.call (k6.call k7)
  have kt7 : Kn t t7 := kt4.call k47
  have y7 := y4.kp wt kt7 id
  obtain ⟨yv, hyv⟩ : ∃ y : Ch, y = ⟨.slice (some ⟨bv, 0, none⟩) x.k.length cv1, .slice (some ⟨bu, 0, none⟩) x.v.length cu1, x.k, x.v, x.g⟩ := ⟨_, rfl⟩
  have e6 : xs.length + 1 - i = (xs.length - i) + 1 := by omega
  rw [e6, zq_succ] at y7
  refine Wd.appc (n := i) rfl rfl rfl rfl rfl rfl rfl rfl y7 rfl (cells_at (k := 1) (size := 3) p7.ats rfl (by decide)) rfl (by intro v hv; simp at hv; rcases hv with rfl | rfl | rfl <;> rfl) rfl (by omega) (by omega) (by omega) (by rw [List.length_append, List.length_append, chs_len, zq_length, y1]; show (i + 1) * 3 ≤ i * 3 + (3 + (xs.length - i) * 3); omega) ?_
  intro t8 p8 m8 k8
  rw [lov_zq (by rw [chs_len, y1]), ← List.append_assoc] at p8
  have wt8 : Wf t8 := k8.wf wt7
  have e8 := k8.le
  have e7 := kt7.le
  have e5 := k5.le
  have e6' := k6.le
  have e47 := kt4.le
  have hb12 := (r2.lt w2).1
  have hb22 := (z2.lt w2).1
  refine run1 ?_
  refine rnd.n (i + 1, t8) ⟨hi, (kt.call kt7).app k8 (by omega), by show s3.nx ≤ t8.nx; omega, (t1.kp wt kt7 id).kp wt7 k8 (by omega), (t2.kp wt kt7 id).kp wt7 k8 (by omega), ys ++ [yv], by rw [List.length_append, y1]; rfl, ?_, ?_, ?_⟩ (by show xs.length - (i + 1) < xs.length - i; omega) (.cons rfl (.cons rfl (.cons rfl (.cons rfl .nil)))) rfl rfl
  ·show (ys ++ [yv]).map cv = (xs.take (i + 1)).map cv
   rw [List.take_succ_eq_append_getElem hi, List.map_append, List.map_append, y2, ← ex, hyv]; rfl
  ·intro y hy
   rcases List.mem_append.1 hy with hy | hy
   ·exact (Ows.kp (y3.kp wt kt7 (fun _ _ _ h => h)) wt7 k8 (fun c h1 h2 h => by omega)) y hy
   ·rw [List.mem_singleton] at hy
    rw [hy, hyv]
    exact ⟨⟨γk, (ok1.kp wt5 (k6.call k7) id).kp wt7 k8 (by omega), by omega⟩, ⟨γv, (ok2.kp wt6 k7 id).kp wt7 k8 (by omega), by omega⟩⟩
  ·show Rw t8 bl (((ys ++ [yv]).map chc).flatten ++ zq (xs.length + 1 - (i + 1))) bl
   rw [List.map_append, List.flatten_append, show xs.length + 1 - (i + 1) = xs.length - i by omega, hyv]
   exact p8
 ·have hie : i = xs.length := by omega
  subst hie
  rw [List.take_of_length_le (Nat.le_refl _)] at y2
  rw [show xs.length + 1 - xs.length = 0 + 1 by omega, zq_succ] at y4
  refine run1 ?_
  refine mkO (cs := mrkB.map nB) fun t3 p3 m3 j3 => ?_
  have wt3 : Wf t3 := j3.wf wt
  obtain ⟨bm, hbm⟩ : ∃ b, b = t.nx := ⟨_, rfl⟩
  rw [← hbm] at p3 ⊢
  refine Wo.val rfl (Xv.asB rfl rfl rfl p3) rfl (run1 ?_)
  refine mkO (cs := [.slice (some ⟨bm, 0, none⟩) 4 (sure 4), .slice none 0 0, .bool false]) fun t4 p4 m4 j4 => ?_
  have wt4 : Wf t4 := j4.wf wt3
  have kt4 : Kn t t4 := j3.call j4
  have y5 := y4.kp wt kt4 id
  refine Wo.appc (n := xs.length) rfl rfl rfl rfl rfl rfl rfl rfl y5 rfl (cells_at (k := 1) (size := 3) p4.ats rfl (by decide)) rfl (by intro v hv; simp at hv; rcases hv with rfl | rfl | rfl <;> rfl) rfl (by omega) (by omega) (by omega) (by rw [List.length_append, List.length_append, chs_len, zq_length, y1]; show (xs.length + 1) * 3 ≤ xs.length * 3 + (3 + 0 * 3); omega) ?_
  intro t5 p5 m5 k5
  rw [lov_zq (by rw [chs_len, y1])] at p5
  have p5' : Rw t5 bl ((ys.map chc).flatten ++ [.slice (some ⟨bm, 0, none⟩) 4 (sure 4), .slice none 0 0, .bool false]) bl := by
   rw [show ([.slice (some ⟨bm, 0, none⟩) 4 (sure 4), .slice none 0 0, .bool false] : List Value) ++ zq 0 = [.slice (some ⟨bm, 0, none⟩) 4 (sure 4), .slice none 0 0, .bool false] from List.append_nil _] at p5
   exact p5
  have wt5 : Wf t5 := k5.wf wt4
  have hb12 := (r2.lt w2).1
  have hb22 := (z2.lt w2).1
  refine run1 ?_
  refine Wo.val rfl (Xv.slH rfl rfl rfl rfl (Cap.sure (Nat.le_refl _)) (Nat.le_succ _)) rfl ?_
  refine run1 ?_
  have q1 := (t1.kp wt kt4 id).kp wt4 k5 (by omega)
  have q2 := (t2.kp wt kt4 id).kp wt4 k5 (by omega)
  refine Wo.st rfl rfl rfl rfl rfl rfl rfl (oo1 rfl) q1 (by rw [rc_len hP hR]; decide) fun t6 p6 m6 k6 => ?_
  have p6' : Rw t6 b1 (rcV k c q P R (.slice (some ⟨bl, 0, none⟩) xs.length (sure (xs.length + 1)))) b1 := by
   have e : ∀ x y : Value, lov (rcV k c q P R x) (0 + 67) [y] = rcV k c q P R y := fun x y => by
    rw [show rcV k c q P R x = (I k :: I c :: I q :: (P.map nB ++ R.map nB)) ++ ([x] ++ []) by simp [rcV], lov_app (b := [x]) (vs := [y]) (by simp [hP, hR]) rfl]; simp [rcV]
   rw [e] at p6
   exact p6
  have wt6 : Wf t6 := k6.wf wt5
  have l6 := p6'.all (n := 68) (rc_len hP hR) (by decide)
  refine run1 ?_
  have hoz : ∀ v ∈ rcV k c q P R (.slice (some ⟨bl, 0, none⟩) xs.length (sure (xs.length + 1))), one v = true := fun v hv => by
   simp only [rcV, List.mem_cons, List.mem_append, List.not_mem_nil, or_false] at hv
   rcases hv with rfl | rfl | rfl | hv | hv | rfl
   ·rfl
   ·rfl
   ·rfl
   ·exact one_nB v hv
   ·exact one_nB v hv
   ·rfl
  refine Wo.st rfl rfl rfl rfl rfl rfl (rc_len hP hR) hoz (q2.kp wt5 k6 (by omega)) (by rw [hzl]; decide) fun t7 p7 m7 k7 => ?_
  rw [lov_all (by rw [rc_len hP hR, hzl])] at p7
  refine run1 ?_
  have hcl := cell_at (B := B) (t := 26) (n := 68) rfl rfl p7 (rc_len hP hR) rfl
  have kf : Kn s t7 := (((kt.call kt4).app k5 (by omega)).app k6 (by omega)).app k7 (by omega)
  have hbn := (p5'.lt wt5).1
  have e5 := k5.le
  have e4 := kt4.le
  have wA : Ows s3.nx t4 ys := y3.kp wt kt4 (fun _ _ _ h => h)
  have wB : Ows s3.nx t5 ys := wA.kp wt4 k5 (fun c h1 _ h => by omega)
  have wC : Ows s3.nx t6 ys := wB.kp wt5 k6 (fun c h1 _ h => by omega)
  have wD : Ows s3.nx t7 ys := wC.kp wt6 k7 (fun c h1 _ h => by omega)
  have wE : Ows b1 t7 ys := fun y hy => by
   obtain ⟨⟨g, h1, h2⟩, ⟨j, h3, h4⟩⟩ := wD y hy
   exact ⟨⟨g, h1, by omega⟩, ⟨j, h3, by omega⟩⟩
  refine Lv.ret (vs := [.agg ⟨rcV k c q P R (.slice (some ⟨bl, 0, none⟩) xs.length (sure (xs.length + 1)))⟩]) ?_ ⟨bl, bm, ys, rfl, ⟨y1, y2, wE, (p5'.kp wt5 k6 (by omega)).kp wt6 k7 (by omega), (((p3.kp wt3 j4 id).kp wt4 k5 (by omega)).kp wt5 k6 (by omega)).kp wt6 k7 (by omega), ⟨by omega, by omega⟩⟩, kf⟩
  show (match cell1 B.P (.pointer (some ⟨b2, 0, none⟩)) 26 t7, some [] with | some v, some vs => some (v :: vs) | _, _ => none) = _
  rw [hcl]
open Go Go.Ev Go.Sy
set_option maxRecDepth 100000
variable {s : St}
theorem cv_at {xs ys : List Ch} (h : ys.map cv = xs.map cv) {i : Nat} (hi : i < xs.length) (hj : i < ys.length) : ys[i].k = xs[i].k ∧ ys[i].v = xs[i].v ∧ ys[i].g = xs[i].g := by
 have := congrArg (·[i]?) h
 simp only [List.getElem?_map, List.getElem?_eq_getElem hi, List.getElem?_eq_getElem hj, Option.map_some] at this
 have e := Option.some.inj this
 unfold cv at e
 injection e with e1 e2
 injection e2 with e2 e3
 exact ⟨e1, e2, e3⟩
theorem eqV_ch {q q' : Option Addr} {n c n' c' : Nat} {g : Bool} : eqV 5 (.agg ⟨[.slice q n c, .slice q' n' c', .bool g]⟩) (.agg ⟨[.slice q n c, .slice q' n' c', .bool g]⟩) = true := eqV_agg fun v hv => by
 simp only [List.mem_cons, List.not_mem_nil, or_false] at hv
 rcases hv with rfl | rfl | rfl
 ·exact eqV4
 ·exact eqV4
 ·cases g <;> rfl
set_option maxHeartbeats 1600000 in
theorem rsame_ok {k c q : Int} {P R : List Nat} {Qa Qb : Option Addr} {xs ys : List Ch} {Ca Cb : Nat} (w0 : Wf s) (hP : P.length = 32) (hR : R.length = 32) (ha : RcOk s Qa ys) (hb : RcOk s Qb xs) (he : ys.map cv = xs.map cv) :
  Cl B (.call 10 [.agg ⟨rcV k c q P R (.slice Qa ys.length Ca)⟩, .agg ⟨rcV k c q P R (.slice Qb xs.length Cb)⟩]) s fun v s' => v = .bool true ∧ Kn s s' := by
 have hlen : ys.length = xs.length := by have := congrArg List.length he; simpa using this
 refine Cl.enter Tryz.f10 fn10 rfl rfl rfl ?_
 refine run1 ?_
 obtain ⟨s2, b2, f1, f2, hb2, r1, r2, n2, k2⟩ := two_mk (cs := rcV k c q P R (.slice Qa ys.length Ca)) (ds := rcV k c q P R (.slice Qb xs.length Cb)) w0
 rw [show mkRow (mkRow s _) _ = s2 from f1, show (mkRow s _).nx = b2 from f2]
 have w2 : Wf s2 := k2.wf w0
 obtain ⟨b1, hb1⟩ : ∃ b, b = s.nx := ⟨_, rfl⟩
 rw [← hb1] at r1 ⊢
 have g1 : good (some ⟨b1, 0, none⟩) := good_b
 have g2 : good (some ⟨b2, 0, none⟩) := good_b
 have a0 : ldq s2 (qadd (some ⟨b1, 0, none⟩) 0) = some (I k) := r1.f1 rfl
 have a1 : ldq s2 (qadd (some ⟨b1, 0, none⟩) 1) = some (I c) := r1.f1 rfl
 have a2 : ldq s2 (qadd (some ⟨b1, 0, none⟩) 2) = some (I q) := r1.f1 rfl
 have a5 : ldq s2 (qadd (some ⟨b1, 0, none⟩) 67) = some (.slice Qa ys.length Ca) := r1.f1 (rc_chg hP hR)
 have d0 : ldq s2 (qadd (some ⟨b2, 0, none⟩) 0) = some (I k) := r2.f1 rfl
 have d1 : ldq s2 (qadd (some ⟨b2, 0, none⟩) 1) = some (I c) := r2.f1 rfl
 have d2 : ldq s2 (qadd (some ⟨b2, 0, none⟩) 2) = some (I q) := r2.f1 rfl
 have d5 : ldq s2 (qadd (some ⟨b2, 0, none⟩) 67) = some (.slice Qb xs.length Cb) := r2.f1 (rc_chg hP hR)
 have eP : ∀ x : Value, ((rcV k c q P R x).drop 3).take 32 = P.map nB := fun x => List.take_left' (by rw [List.length_map, hP])
 have eR : ∀ x : Value, ((rcV k c q P R x).drop 35).take 32 = R.map nB := fun x => by
  show ((P.map nB ++ (R.map nB ++ [x])).drop 32).take 32 = _
  rw [List.drop_left' (by rw [List.length_map, hP]), List.take_left' (by rw [List.length_map, hR])]
 have a3 : ldn s2 (qadd (some ⟨b1, 0, none⟩) 3) 32 = some (P.map nB) := by rw [r1.fn (i := 3) (n := 32) (by rw [rc_len hP hR]; decide) (by decide), eP]
 have a4 : ldn s2 (qadd (some ⟨b1, 0, none⟩) 35) 32 = some (R.map nB) := by rw [r1.fn (i := 35) (n := 32) (by rw [rc_len hP hR]; decide) (by decide), eR]
 have d3 : ldn s2 (qadd (some ⟨b2, 0, none⟩) 3) 32 = some (P.map nB) := by rw [r2.fn (i := 3) (n := 32) (by rw [rc_len hP hR]; decide) (by decide), eP]
 have d4 : ldn s2 (qadd (some ⟨b2, 0, none⟩) 35) 32 = some (R.map nB) := by rw [r2.fn (i := 35) (n := 32) (by rw [rc_len hP hR]; decide) (by decide), eR]
 have hk : ¬ k ≠ k := fun h => h rfl
 have hc : ¬ c ≠ c := fun h => h rfl
 have hq : ¬ q ≠ q := fun h => h rfl
 have hPP : ¬ P ≠ P := fun h => h rfl
 have hRR : ¬ R ≠ R := fun h => h rfl
 have hll : ¬ ys.length ≠ xs.length := fun h => h hlen
 refine run1 ?_
 refine Wo.val (gT' rfl hq) (Xv.neH HH HG rfl rfl hP hP) rfl (run1 ?_)
 refine Wo.val (gT' rfl hPP) (Xv.neH HH HG rfl rfl hR hR) rfl (run1 ?_)
 have hlb := hb.len
 refine W.loop (α := Nat × St) (fun a => [(2, .pointer (some ⟨b1, 0, none⟩)), (3, .pointer (some ⟨b2, 0, none⟩)), (5, nI a.1)]) (fun _ => []) (fun a => a.2)
  (fun a => a.1 ≤ xs.length ∧ Kn s2 a.2) (fun a => xs.length - a.1) (0, s2) ⟨Nat.zero_le _, .refl⟩ (.cons rfl (.cons rfl (.cons rfl .nil))) rfl rfl (by show xs.length - 0 < _; omega) ?_
 rintro ⟨i, t⟩ ⟨i1, kt⟩
 simp only at i1 kt
 dsimp only
 have wt : Wf t := kt.wf w2
 have k0t : Kn s t := k2.call kt
 have t1 := r1.kp w2 kt id
 have t2 := r2.kp w2 kt id
 have a5t : ldq t (qadd (some ⟨b1, 0, none⟩) 67) = some (.slice Qa ys.length Ca) := t1.f1 (rc_chg hP hR)
 have d5t : ldq t (qadd (some ⟨b2, 0, none⟩) 67) = some (.slice Qb xs.length Cb) := t2.f1 (rc_chg hP hR)
 by_cases hi : i < xs.length
 ·have hj : i < ys.length := by omega
  obtain ⟨c1, c2, c3⟩ := cv_at he hi hj
  have hox := hb.ok _ (List.getElem_mem hi)
  have hoy := ha.ok _ (List.getElem_mem hj)
  obtain ⟨gA, lyA⟩ := (ha.kn w0 k0t).kid hj
  obtain ⟨gB, lxB⟩ := (hb.kn w0 k0t).kid hi
  have lxB' : ∀ {t' : St}, Kn t t' → ldn t' (qadd Qb (i * 3)) 3 = some (chc xs[i]) := fun k => ((hb.kn w0 (k0t.call k)).kid hi).2
  obtain ⟨x, ex⟩ : ∃ x, x = xs[i] := ⟨_, rfl⟩
  obtain ⟨y, ey⟩ : ∃ y, y = ys[i] := ⟨_, rfl⟩
  rw [← ex] at c1 c2 c3 hox lxB lxB'
  rw [← ey] at c1 c2 c3 hoy lyA
  have hone := hoy.one
  have hone' := hox.one
  obtain ⟨⟨qk, ck, ek, bk1, bk2⟩, ⟨qv, cv', ev1, bv1, bv2⟩, _, _⟩ := hox
  obtain ⟨⟨qk', ck', ek', bk1', bk2'⟩, ⟨qv', cv'', ev1', bv1', bv2'⟩, _, _⟩ := hoy
  rw [chc, ek, ev1] at lxB lxB' hone'
  rw [chc, ek', ev1', c1, c2, c3] at lyA hone
  rw [c1] at bk1'
  rw [c2] at bv1'
  refine run1 ?_
  refine W.dr [(0, .none, 0), (1, .reads, 1), (2, .none, 0), (3, .none, 7), (4, .reads, 15), (10, .makes, 0), (11, .makes, 0), (12, .acts, 3103), (5, .none, 0), (6, .reads, 32), (7, .none, 0), (8, .none, 224), (9, .reads, 480), (13, .acts, 8191)] (by kernel_rfl) rfl (run1 ?_)
  refine Wd.read rfl (Xv.ldN rfl rfl rfl lyA) rfl eqV_ch ⟨Xv.ldN rfl rfl rfl lyA, trivial⟩ (run1 ?_)
  obtain ⟨t3, b7, f1, f2, hb7, p6, p7, n3, k3⟩ := two_mk (cs := [.slice none 0 0, .slice none 0 0, .bool false]) (ds := [.slice none 0 0, .slice none 0 0, .bool false]) wt
  rw [show mkRow (mkRow t _) _ = t3 from f1, show (mkRow t _).nx = b7 from f2]
  have wt3 : Wf t3 := k3.wf wt
  obtain ⟨b6, hb6⟩ : ∃ b, b = t.nx := ⟨_, rfl⟩
  rw [← hb6] at p6 ⊢
  refine Wd.st rfl rfl rfl rfl rfl rfl rfl hone p6 (by decide) fun t4 p4 m4 j4 => ?_
  have p4' : Rw t4 b6 [.slice qk' x.k.length ck', .slice qv' x.v.length cv'', .bool x.g] b6 := p4
  have k4 : Kn t t4 := k3.app j4 (by omega)
  have wt4 : Wf t4 := k4.wf wt
  have d54 : ldq t4 (qadd (some ⟨b2, 0, none⟩) 67) = some (.slice Qb xs.length Cb) := (t2.kp wt k4 id).f1 (rc_chg hP hR)
  refine run1 ?_
  have lx4 := lxB' k4
  refine Wd.read rfl (Xv.ldN rfl rfl rfl lx4) rfl eqV_ch ⟨Xv.ldN rfl rfl rfl lx4, Xv.ldN rfl rfl rfl lxB, trivial⟩ ?_
  refine Wd.st rfl rfl rfl rfl rfl rfl rfl hone' (p7.kp wt3 j4 (by omega)) (by decide) fun t5 p5 m5 j5 => ?_
  have p5' : Rw t5 b7 [.slice qk x.k.length ck, .slice qv x.v.length cv', .bool x.g] b7 := p5
  have p65 := p4'.kp wt4 j5 (by omega)
  have k5 : Kn t t5 := k4.app j5 (by omega)
  have wt5 : Wf t5 := k5.wf wt
  have k05 : Kn s t5 := k0t.call k5
  have g6 : good (some ⟨b6, 0, none⟩) := good_b
  have g7 : good (some ⟨b7, 0, none⟩) := good_b
  have u0 : ldq t5 (qadd (some ⟨b6, 0, none⟩) 0) = some (.slice qk' x.k.length ck') := p65.f1 rfl
  have u1 : ldq t5 (qadd (some ⟨b6, 0, none⟩) 1) = some (.slice qv' x.v.length cv'') := p65.f1 rfl
  have u2 : ldq t5 (qadd (some ⟨b6, 0, none⟩) 2) = some (.bool x.g) := p65.f1 rfl
  have v0 : ldq t5 (qadd (some ⟨b7, 0, none⟩) 0) = some (.slice qk x.k.length ck) := p5'.f1 rfl
  have v1 : ldq t5 (qadd (some ⟨b7, 0, none⟩) 1) = some (.slice qv x.v.length cv') := p5'.f1 rfl
  have v2 : ldq t5 (qadd (some ⟨b7, 0, none⟩) 2) = some (.bool x.g) := p5'.f1 rfl
  refine run1 ?_
  refine Wo.val rfl (Xv.neB rfl rfl rfl) rfl ?_
  rw [show (!(x.g == x.g)) = false by simp]
  refine run1 ?_
  refine Wo.call rfl (Xc.call ok18 rfl) rfl ((same_ok (bk1'.kn w0 k05) (bk1.kn w0 k05) (by omega) (by omega)).mono ?_)
  rintro v s' ⟨rfl, e'⟩
  rw [e', decide_eq_true rfl]; clear e' s'
  refine run1 ?_
  refine Wo.call rfl (Xc.call ok18 rfl) rfl ((same_ok (bv1'.kn w0 k05) (bv1.kn w0 k05) (by omega) (by omega)).mono ?_)
  rintro v s' ⟨rfl, e'⟩
  rw [e', decide_eq_true rfl]; clear e' s'
  refine run1 ?_
  exact rnd.n (i + 1, t5) ⟨hi, kt.call k5⟩ (by show xs.length - (i + 1) < xs.length - i; omega) (.cons rfl (.cons rfl (.cons rfl .nil))) rfl rfl
 ·have hj : ¬ i < ys.length := by omega
  refine run1 ?_
  exact Lv.ret rfl ⟨rfl, k0t⟩
open Go Go.Ev Go.Sy
set_option maxRecDepth 100000
variable {s : St}
theorem Cpy.at' {N0 : Nat} {xs ys : List Ch} {bl bm : Nat} (h : Cpy N0 s xs ys bl bm) : At s (some ⟨bl, 0, none⟩) (ys.map chc).flatten := by
 have := (h.row.sl (o := 0) (n := (ys.map chc).flatten.length) (by rw [List.length_append]; omega)).at
 rwa [List.drop_zero, List.take_left] at this
theorem Cpy.rc {N0 : Nat} {xs ys : List Ch} {bl bm : Nat} (h : Cpy N0 s xs ys bl bm) (hx : ∀ x ∈ xs, (∀ y ∈ x.k, y < 256) ∧ ∀ y ∈ x.v, y < 256) (hl : xs.length < 2 ^ 42) : RcOk s (some ⟨bl, 0, none⟩) ys := by
 refine ⟨h.at', fun y hy => ?_, by rw [h.len]; exact hl⟩
 obtain ⟨⟨g, o1, _⟩, ⟨j, o2, _⟩⟩ := h.own y hy
 obtain ⟨i, hi, rfl⟩ := List.getElem_of_mem hy
 have hi' : i < xs.length := by have := h.len; omega
 obtain ⟨e1, e2, _⟩ := cv_at h.same hi' hi
 have := hx _ (List.getElem_mem hi')
 exact ⟨o1.bs, o2.bs, by rw [e1]; exact this.1, by rw [e2]; exact this.2⟩
open Go Go.Ev Go.Sy Go.RowKit
set_option maxRecDepth 100000
theorem hasT_mem : ∀ {l : List (Nat × List Value)} {s : St}, hasT s l = true → ∀ p ∈ l, readAt s p.1 0 p.2.length = some p.2 ∨ p.2 = []
 | [], _, _, p, hp => by cases hp
 | (g, t) :: r, s, h, p, hp => by
  have h' : (sameL (match readAt s g 0 t.length with | some cs => cs | none => []) t && hasT s r) = true := h
  simp only [Bool.and_eq_true] at h'
  rcases List.mem_cons.1 hp with rfl | hp
  ·have e := sameL_eq h'.1
   cases hr : readAt s g 0 t.length with
   | none => rw [hr] at e; exact .inr e.symm
   | some cs => rw [hr] at e; exact .inl (congrArg some e)
  ·exact hasT_mem h'.2 p hp
theorem fixK_ok {N : Nat} : HookOk N Tryz.prog fixK := by
 intro f g hf args args' s s' v E w h ha hx
 unfold fixK at hf
 cases h1 : Nat.beq f 5 with
 | false => rw [h1] at hf; exact Nz.hooksX_ok hf h ha hx
 | true =>
  rw [h1] at hf
  cases hf
  obtain rfl := Nat.eq_of_beq_eq_true h1
  unfold fixH at hx
  split at hx
  case h_2 => cases hx
  cases hT : hasT s Dg.tabs with
  | false => rw [hT] at hx; cases hx
  | true =>
   rw [hT] at hx
   cases hx
   cases ha
   have ht : ∀ p ∈ Dg.tabs, p.1 < 1000 ∧ ∃ c t fr, w.heap[p.1]? = some (.cells c t fr) ∧ ∀ (i : Nat) (v : Value), p.2[i]? = some v → c[i]? = some v ∧ plain 1 v = true := fun p hp => by
    have hlt : p.1 < 1000 := (show ∀ p ∈ Dg.tabs, p.1 < 1000 by decide) p hp
    have hpl : ∀ v ∈ p.2, plain 1 v = true := fun v hv => List.all_eq_true.1 (List.all_eq_true.1 (show (Dg.tabs.all fun p => p.2.all (plain 1)) = true by kernel_rfl) p hp) v hv
    have hne : p.2 ≠ [] := fun e => by
     have : (Dg.tabs.all fun p => !p.2.isEmpty) = true := by kernel_rfl
     have := List.all_eq_true.1 this p hp
     rw [e] at this; cases this
    have hr := (hasT_mem hT p hp).resolve_right hne
    obtain ⟨t', j1, j2⟩ := readAt_cell Tryz.prog h.obs hr
    have e3 : t' = p.2 := VRs.plain_eq (p := plain 1) (fun v v' => plain_eq 1 v v') _ _ (List.all_eq_true.2 hpl) j1
    subst e3
    obtain ⟨i1, i2⟩ := h.base p.1 hlt
    rw [i1, i2] at j2
    have h0 : ∃ v0, p.2[0]? = some v0 := ⟨p.2[0]'(List.length_pos_iff.2 hne), List.getElem?_eq_getElem _⟩
    obtain ⟨v0, hv0⟩ := h0
    have hc0 := j2 0 v0 hv0
    unfold World.cell? at hc0
    split at hc0
    case h_2 => cases hc0
    rename_i c t fr hw
    refine ⟨hlt, c, t, fr, hw, fun i v hv => ⟨?_, hpl v (List.mem_of_getElem? hv)⟩⟩
    have hc := j2 i v hv
    unfold World.cell? at hc
    simp only at hw hc
    rw [hw] at hc
    simpa using hc
   refine (closed Dg.mixed Dg.hooks_ok ht whole).mono fun e w' ⟨he, hb⟩ => ⟨E, _, he, .bool _, stp_below h hb⟩
theorem TabAt.has {s : St} (h : TabAt s) : hasT s Dg.tabs = true := by
 have key : ∀ l : List (Nat × List Value), (∀ p ∈ l, At s (some ⟨p.1, 0, none⟩) p.2) → (l.all fun p => sameL p.2 p.2) = true → hasT s l = true := fun l => by
  induction l with
  | nil => intro _ _; rfl
  | cons p l ih =>
   intro h hs
   obtain ⟨g, t⟩ := p
   have hs' : (sameL t t && l.all fun p => sameL p.2 p.2) = true := hs
   simp only [Bool.and_eq_true] at hs'
   have h1 := h (g, t) List.mem_cons_self
   show (sameL (match readAt s g 0 t.length with | some cs => cs | none => []) t && hasT s l) = true
   rw [ih (fun q hq => h q (List.mem_cons_of_mem _ hq)) hs'.2, Bool.and_true]
   rcases h1 with ⟨_, h1⟩ | ⟨b, o, h1, h2⟩
   ·rcases h1 with h1 | ⟨_, _, _, h1⟩ <;> cases h1
   ·cases h1; rw [show readAt s g 0 t.length = some t from h2]; exact hs'.1
 exact key _ h (by kernel_rfl)
theorem fixed_ok {s : St} (h : TabAt s) : Cl B (.call 5 []) s fun v s' => v = .bool true ∧ s' = s :=
 Cl.hook (g := fixH) rfl (by show cond (hasT s Dg.tabs) _ _ = _; rw [h.has]; rfl) ⟨rfl, rfl⟩
open Go Go.Ev Go.Sy
set_option maxRecDepth 100000
variable {s : St}
theorem rw_col {b γ δ : Nat} {l cs : List Value} (h : Rw s b l γ) (k : Sl s (some ⟨b, 0, none⟩) cs δ) : δ = γ := by
 obtain ⟨g, h1, h2⟩ := h
 rcases k with ⟨_, k | ⟨_, _, _, k⟩⟩ | ⟨b', o, ob, l', e, k1, k2, k3, _⟩
 ·cases k
 ·cases k
 ·cases e
  rw [h1] at k1
  cases k1
  rw [← k3]; exact h2
abbrev S0 : List Nat := List.replicate 32 0
theorem S0_b : ∀ x ∈ S0, x < 256 := fun x hx => by rw [List.eq_of_mem_replicate hx]; decide
theorem cutH {A : List Nat} {cb : Nat} : (cutOf (hmc S0 A) cb).length = 32 := ctN_length.trans hmc_length
def Coded1 (cb b r1 r2 r3 N : Nat) (A H : List Nat) (s' : St) : Prop := ∃ ql cl qa ca γl γa, Rw s' b (bkT 256 cb S0 (bl 0 r1 0 r2 1 r3 0)) b ∧ Mp s' r2 (mput H (.slice ql 1 cl) []) ∧ Sl s' ql [.slice qa A.length ca] γl ∧ N ≤ γl ∧ Sl s' qa (A.map nB) γa ∧ N ≤ γa
theorem Coded1.kp {cb b r1 r2 r3 N : Nat} {A H : List Nat} {s' : St} {C : Nat → Prop} (h : Coded1 cb b r1 r2 r3 N A H s) (w : Wf s) (k : Kp C s s') (hb : ¬ C b) (hr : ¬ C r2) (hN : ∀ c, N ≤ c → c < s.nx → ¬ C c) (hA : A ≠ []) : Coded1 cb b r1 r2 r3 N A H s' := by
 obtain ⟨ql, cl, qa, ca, γl, γa, h1, h2, h3, h4, h5, h6⟩ := h
 have l1 : γl < s.nx := by
  rcases h3 with ⟨e, _⟩ | ⟨b', o, ob, l', e, k1, k2, k3, _⟩
  ·cases e
  ·rw [← k3]; exact (w.lt _ _ k1).2
 have l2 : γa < s.nx := by
  rcases h5 with ⟨e, _⟩ | ⟨b', o, ob, l', e, k1, k2, k3, _⟩
  ·exact absurd (List.map_eq_nil_iff.1 e) hA
  ·rw [← k3]; exact (w.lt _ _ k1).2
 exact ⟨ql, cl, qa, ca, γl, γa, h1.kp w k hb, Mp.kp h2 w k hr, h3.kp w k (hN _ h4 l1), h4, h5.kp w k (hN _ h6 l2), h6⟩
theorem code1 {s0 : St} {cb b r1 r2 r3 : Nat} {A H : List Nat} (w0 : Wf s0) (hT : TabAt s0) (k0 : Kp (fun c => s0.nx ≤ c) s0 s) (hB : Rw s b (bkT 256 cb S0 (bl 0 r1 0 r2 0 r3 0)) b) (hM : Mp s r2 []) (hr : s0.nx ≤ r2 ∧ r2 < b) (hcb : cb ≤ 256) (hA : ∀ x ∈ A, x < 256) (hl : A.length < 2 ^ 40) (hH : H = cutOf (hmc S0 A) cb) :
  ∀ s3 bb, Kn s s3 → s.nx ≤ bb → Rw s3 bb (A.map nB) bb → Cl B (.call 19 [.pointer (some ⟨b, 0, none⟩), .slice (some ⟨bb, 0, none⟩) A.length (sure A.length)]) s3 fun v s4 => v = hsh H ∧ Kp (fun c => c = b ∨ c = r2) s3 s4 ∧ ∀ s', Kp (fun c => s.nx ≤ c ∧ c < s3.nx) s4 s' → Coded1 cb b r1 r2 r3 s.nx A H s' := by
 intro s3 bb k3 hbb hA3
 have w : Wf s := k0.wf w0
 have w3 : Wf s3 := k3.wf w
 have hbn := (hB.lt w).1
 have k03 : Kp (fun c => s0.nx ≤ c) s0 s3 := k0.trans (k3.w)
 refine (code_new (n1 := 0) (n3 := 0) w3 (hT.kpN w0 k03) (hB.kp w k3 id) (Mp.kp hM w k3 id) (by omega) rfl S0_b hA3.ats hA (Cap.sure (Nat.le_refl _)) hl hcb hH (by decide) rfl (fun s' k => hT.kpN w0 (k03.trans (k.mono fun c h => by omega))) (fun δ hδ => by have := rw_col hA3 hδ; omega)).mono ?_
 rintro v s4 ⟨rfl, ql, cl, qa, ca, γl, γa, h1, h2, h3, h4, h5, h6, h7⟩
 have w4 : Wf s4 := h7.wf w3
 have e3 := k3.le
 refine ⟨rfl, h7, fun s' k => ⟨ql, cl, qa, ca, γl, γa, h1.kp w4 k (by omega), Mp.kp h2 w4 k (by omega), h3.kp w4 k (by omega), by omega, h5.kp w4 k (by omega), by omega⟩⟩
end Go.Proofs.YtcnhinnpieehoaaGreatDoor
