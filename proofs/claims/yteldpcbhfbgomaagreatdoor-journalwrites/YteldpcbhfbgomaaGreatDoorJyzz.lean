import Derived.Test.YteldpcbhfbgomaaGreatDoorJtzz
import Derived.Test.YteldpcbhfbgomaaGreatDoorCazz
import Derived.Test.YteldpcbhfbgomaaGreatDoorCwzz
import Derived.Test.YteldpcbhfbgomaaGreatDoorWstzz
import Derived.Test.YteldpcbhfbgomaaGreatDoorFjzz
import Derived.Test.YteldpcbhfbgomaaGreatDoorCpzz
namespace Go.Proofs.YteldpcbhfbgomaaGreatDoor
open Go Go.Ev Go.Sy
set_option maxRecDepth 100000
variable {s : St}
theorem cv_at {xs ys : List Ch} (h : ys.map cv = xs.map cv) {i : Nat} (hi : i < xs.length) (hj : i < ys.length) : ys[i].k = xs[i].k ∧ ys[i].v = xs[i].v ∧ ys[i].g = xs[i].g := by
 have := congrArg (·[i]?) h
 simp only [List.getElem?_map, List.getElem?_eq_getElem hi, List.getElem?_eq_getElem hj, Option.map_some] at this
 have e := Option.some.inj this
 unfold cv at e
 injection e with e1 e2
 injection e2 with e2 e3
 exact ⟨e1, e2, e3⟩
theorem eqV_ch {q q' : Option Addr} {n c n' c' : Nat} {g : Bool} : eqV 5 (.agg ⟨[.slice q n c, .slice q' n' c', .bool g]⟩) (.agg ⟨[.slice q n c, .slice q' n' c', .bool g]⟩) = true := eqV_agg fun v hv => by
 simp only [List.mem_cons, List.not_mem_nil, or_false] at hv
 rcases hv with rfl | rfl | rfl
 ·exact eqV4
 ·exact eqV4
 ·cases g <;> rfl
set_option maxHeartbeats 1600000 in
theorem rsame_ok {k c q : Int} {P R : List Nat} {Qa Qb : Option Addr} {xs ys : List Ch} {Ca Cb : Nat} (w0 : Wf s) (hP : P.length = 32) (hR : R.length = 32) (ha : RcOk s Qa ys) (hb : RcOk s Qb xs) (he : ys.map cv = xs.map cv) :
  Cl B (.call 37 [.agg ⟨rcV k c q P R (.slice Qa ys.length Ca)⟩, .agg ⟨rcV k c q P R (.slice Qb xs.length Cb)⟩]) s fun v s' => v = .bool true ∧ Kn s s' := by
 have hlen : ys.length = xs.length := by have := congrArg List.length he; simpa using this
 refine Cl.enter Tryz.f37 fn37 rfl rfl rfl ?_
 refine run1 ?_
 obtain ⟨s2, b2, f1, f2, hb2, r1, r2, n2, k2⟩ := two_mk (cs := rcV k c q P R (.slice Qa ys.length Ca)) (ds := rcV k c q P R (.slice Qb xs.length Cb)) w0
 rw [show mkRow (mkRow s _) _ = s2 from f1, show (mkRow s _).nx = b2 from f2]
 have w2 : Wf s2 := k2.wf w0
 obtain ⟨b1, hb1⟩ : ∃ b, b = s.nx := ⟨_, rfl⟩
 rw [← hb1] at r1 ⊢
 have g1 : good (some ⟨b1, 0, none⟩) := good_b
 have g2 : good (some ⟨b2, 0, none⟩) := good_b
 have a0 : ldq s2 (qadd (some ⟨b1, 0, none⟩) 0) = some (I k) := r1.f1 rfl
 have a1 : ldq s2 (qadd (some ⟨b1, 0, none⟩) 1) = some (I c) := r1.f1 rfl
 have a2 : ldq s2 (qadd (some ⟨b1, 0, none⟩) 2) = some (I q) := r1.f1 rfl
 have a5 : ldq s2 (qadd (some ⟨b1, 0, none⟩) 67) = some (.slice Qa ys.length Ca) := r1.f1 (rc_chg hP hR)
 have d0 : ldq s2 (qadd (some ⟨b2, 0, none⟩) 0) = some (I k) := r2.f1 rfl
 have d1 : ldq s2 (qadd (some ⟨b2, 0, none⟩) 1) = some (I c) := r2.f1 rfl
 have d2 : ldq s2 (qadd (some ⟨b2, 0, none⟩) 2) = some (I q) := r2.f1 rfl
 have d5 : ldq s2 (qadd (some ⟨b2, 0, none⟩) 67) = some (.slice Qb xs.length Cb) := r2.f1 (rc_chg hP hR)
 have eP : ∀ x : Value, ((rcV k c q P R x).drop 3).take 32 = P.map nB := fun x => List.take_left' (by rw [List.length_map, hP])
 have eR : ∀ x : Value, ((rcV k c q P R x).drop 35).take 32 = R.map nB := fun x => by
  show ((P.map nB ++ (R.map nB ++ [x])).drop 32).take 32 = _
  rw [List.drop_left' (by rw [List.length_map, hP]), List.take_left' (by rw [List.length_map, hR])]
 have a3 : ldn s2 (qadd (some ⟨b1, 0, none⟩) 3) 32 = some (P.map nB) := by rw [r1.fn (i := 3) (n := 32) (by rw [rc_len hP hR]; decide) (by decide), eP]
 have a4 : ldn s2 (qadd (some ⟨b1, 0, none⟩) 35) 32 = some (R.map nB) := by rw [r1.fn (i := 35) (n := 32) (by rw [rc_len hP hR]; decide) (by decide), eR]
 have d3 : ldn s2 (qadd (some ⟨b2, 0, none⟩) 3) 32 = some (P.map nB) := by rw [r2.fn (i := 3) (n := 32) (by rw [rc_len hP hR]; decide) (by decide), eP]
 have d4 : ldn s2 (qadd (some ⟨b2, 0, none⟩) 35) 32 = some (R.map nB) := by rw [r2.fn (i := 35) (n := 32) (by rw [rc_len hP hR]; decide) (by decide), eR]
 have hk : ¬ k ≠ k := fun h => h rfl
 have hc : ¬ c ≠ c := fun h => h rfl
 have hq : ¬ q ≠ q := fun h => h rfl
 have hPP : ¬ P ≠ P := fun h => h rfl
 have hRR : ¬ R ≠ R := fun h => h rfl
 have hll : ¬ ys.length ≠ xs.length := fun h => h hlen
 refine run1 ?_
 refine Wo.val (gT' rfl hq) (Xv.neH HH HG rfl rfl hP hP) rfl (run1 ?_)
 refine Wo.val (gT' rfl hPP) (Xv.neH HH HG rfl rfl hR hR) rfl (run1 ?_)
 have hlb := hb.len
 refine W.loop (α := Nat × St) (fun a => [(2, .pointer (some ⟨b1, 0, none⟩)), (3, .pointer (some ⟨b2, 0, none⟩)), (5, nI a.1)]) (fun _ => []) (fun a => a.2)
  (fun a => a.1 ≤ xs.length ∧ Kn s2 a.2) (fun a => xs.length - a.1) (0, s2) ⟨Nat.zero_le _, .refl⟩ (.cons rfl (.cons rfl (.cons rfl .nil))) rfl rfl (by show xs.length - 0 < _; omega) ?_
 rintro ⟨i, t⟩ ⟨i1, kt⟩
 simp only at i1 kt
 dsimp only
 have wt : Wf t := kt.wf w2
 have k0t : Kn s t := k2.call kt
 have t1 := r1.kp w2 kt id
 have t2 := r2.kp w2 kt id
 have a5t : ldq t (qadd (some ⟨b1, 0, none⟩) 67) = some (.slice Qa ys.length Ca) := t1.f1 (rc_chg hP hR)
 have d5t : ldq t (qadd (some ⟨b2, 0, none⟩) 67) = some (.slice Qb xs.length Cb) := t2.f1 (rc_chg hP hR)
 by_cases hi : i < xs.length
 ·have hj : i < ys.length := by omega
  obtain ⟨c1, c2, c3⟩ := cv_at he hi hj
  have hox := hb.ok _ (List.getElem_mem hi)
  have hoy := ha.ok _ (List.getElem_mem hj)
  obtain ⟨gA, lyA⟩ := (ha.kn w0 k0t).kid hj
  obtain ⟨gB, lxB⟩ := (hb.kn w0 k0t).kid hi
  have lxB' : ∀ {t' : St}, Kn t t' → ldn t' (qadd Qb (i * 3)) 3 = some (chc xs[i]) := fun k => ((hb.kn w0 (k0t.call k)).kid hi).2
  obtain ⟨x, ex⟩ : ∃ x, x = xs[i] := ⟨_, rfl⟩
  obtain ⟨y, ey⟩ : ∃ y, y = ys[i] := ⟨_, rfl⟩
  rw [← ex] at c1 c2 c3 hox lxB lxB'
  rw [← ey] at c1 c2 c3 hoy lyA
  have hone := hoy.one
  have hone' := hox.one
  obtain ⟨⟨qk, ck, ek, bk1, bk2⟩, ⟨qv, cv', ev1, bv1, bv2⟩, _, _⟩ := hox
  obtain ⟨⟨qk', ck', ek', bk1', bk2'⟩, ⟨qv', cv'', ev1', bv1', bv2'⟩, _, _⟩ := hoy
  rw [chc, ek, ev1] at lxB lxB' hone'
  rw [chc, ek', ev1', c1, c2, c3] at lyA hone
  rw [c1] at bk1'
  rw [c2] at bv1'
  refine run1 ?_
  refine W.dr [(0, .none, 0), (1, .reads, 1), (2, .none, 0), (3, .none, 7), (4, .reads, 15), (10, .makes, 0), (11, .makes, 0), (12, .acts, 3103), (5, .none, 0), (6, .reads, 32), (7, .none, 0), (8, .none, 224), (9, .reads, 480), (13, .acts, 8191)] (by kernel_rfl) rfl (run1 ?_)
  refine Wd.read rfl (Xv.ldN rfl rfl rfl lyA) rfl eqV_ch ⟨Xv.ldN rfl rfl rfl lyA, trivial⟩ (run1 ?_)
  obtain ⟨t3, b7, f1, f2, hb7, p6, p7, n3, k3⟩ := two_mk (cs := [.slice none 0 0, .slice none 0 0, .bool false]) (ds := [.slice none 0 0, .slice none 0 0, .bool false]) wt
  rw [show mkRow (mkRow t _) _ = t3 from f1, show (mkRow t _).nx = b7 from f2]
  have wt3 : Wf t3 := k3.wf wt
  obtain ⟨b6, hb6⟩ : ∃ b, b = t.nx := ⟨_, rfl⟩
  rw [← hb6] at p6 ⊢
  refine Wd.st rfl rfl rfl rfl rfl rfl rfl hone p6 (by decide) fun t4 p4 m4 j4 => ?_
  have p4' : Rw t4 b6 [.slice qk' x.k.length ck', .slice qv' x.v.length cv'', .bool x.g] b6 := p4
  have k4 : Kn t t4 := k3.app j4 (by omega)
  have wt4 : Wf t4 := k4.wf wt
  have d54 : ldq t4 (qadd (some ⟨b2, 0, none⟩) 67) = some (.slice Qb xs.length Cb) := (t2.kp wt k4 id).f1 (rc_chg hP hR)
  refine run1 ?_
  have lx4 := lxB' k4
  refine Wd.read rfl (Xv.ldN rfl rfl rfl lx4) rfl eqV_ch ⟨Xv.ldN rfl rfl rfl lx4, Xv.ldN rfl rfl rfl lxB, trivial⟩ ?_
  refine Wd.st rfl rfl rfl rfl rfl rfl rfl hone' (p7.kp wt3 j4 (by omega)) (by decide) fun t5 p5 m5 j5 => ?_
  have p5' : Rw t5 b7 [.slice qk x.k.length ck, .slice qv x.v.length cv', .bool x.g] b7 := p5
  have p65 := p4'.kp wt4 j5 (by omega)
  have k5 : Kn t t5 := k4.app j5 (by omega)
  have wt5 : Wf t5 := k5.wf wt
  have k05 : Kn s t5 := k0t.call k5
  have g6 : good (some ⟨b6, 0, none⟩) := good_b
  have g7 : good (some ⟨b7, 0, none⟩) := good_b
  have u0 : ldq t5 (qadd (some ⟨b6, 0, none⟩) 0) = some (.slice qk' x.k.length ck') := p65.f1 rfl
  have u1 : ldq t5 (qadd (some ⟨b6, 0, none⟩) 1) = some (.slice qv' x.v.length cv'') := p65.f1 rfl
  have u2 : ldq t5 (qadd (some ⟨b6, 0, none⟩) 2) = some (.bool x.g) := p65.f1 rfl
  have v0 : ldq t5 (qadd (some ⟨b7, 0, none⟩) 0) = some (.slice qk x.k.length ck) := p5'.f1 rfl
  have v1 : ldq t5 (qadd (some ⟨b7, 0, none⟩) 1) = some (.slice qv x.v.length cv') := p5'.f1 rfl
  have v2 : ldq t5 (qadd (some ⟨b7, 0, none⟩) 2) = some (.bool x.g) := p5'.f1 rfl
  refine run1 ?_
  refine Wo.val rfl (Xv.neB rfl rfl rfl) rfl ?_
  rw [show (!(x.g == x.g)) = false by simp]
  refine run1 ?_
  refine Wo.call rfl (Xc.call ok11 rfl) rfl ((same_ok (bk1'.kn w0 k05) (bk1.kn w0 k05) (by omega) (by omega)).mono ?_)
  rintro v s' ⟨rfl, e'⟩
  rw [e', decide_eq_true rfl]; clear e' s'
  refine run1 ?_
  refine Wo.call rfl (Xc.call ok11 rfl) rfl ((same_ok (bv1'.kn w0 k05) (bv1.kn w0 k05) (by omega) (by omega)).mono ?_)
  rintro v s' ⟨rfl, e'⟩
  rw [e', decide_eq_true rfl]; clear e' s'
  refine run1 ?_
  exact rnd.n (i + 1, t5) ⟨hi, kt.call k5⟩ (by show xs.length - (i + 1) < xs.length - i; omega) (.cons rfl (.cons rfl (.cons rfl .nil))) rfl rfl
 ·have hj : ¬ i < ys.length := by omega
  refine run1 ?_
  exact Lv.ret rfl ⟨rfl, k0t⟩
open Go Go.Ev Go.Sy
set_option maxRecDepth 100000
variable {s : St}
theorem Cpy.at' {N0 : Nat} {xs ys : List Ch} {bl bm : Nat} (h : Cpy N0 s xs ys bl bm) : At s (some ⟨bl, 0, none⟩) (ys.map chc).flatten := by
 have := (h.row.sl (o := 0) (n := (ys.map chc).flatten.length) (by rw [List.length_append]; omega)).at
 rwa [List.drop_zero, List.take_left] at this
theorem Cpy.rc {N0 : Nat} {xs ys : List Ch} {bl bm : Nat} (h : Cpy N0 s xs ys bl bm) (hx : ∀ x ∈ xs, (∀ y ∈ x.k, y < 256) ∧ ∀ y ∈ x.v, y < 256) (hl : xs.length < 2 ^ 42) : RcOk s (some ⟨bl, 0, none⟩) ys := by
 refine ⟨h.at', fun y hy => ?_, by rw [h.len]; exact hl⟩
 obtain ⟨⟨g, o1, _⟩, ⟨j, o2, _⟩⟩ := h.own y hy
 obtain ⟨i, hi, rfl⟩ := List.getElem_of_mem hy
 have hi' : i < xs.length := by have := h.len; omega
 obtain ⟨e1, e2, _⟩ := cv_at h.same hi' hi
 have := hx _ (List.getElem_mem hi')
 exact ⟨o1.bs, o2.bs, by rw [e1]; exact this.1, by rw [e2]; exact this.2⟩
theorem rc_ld {Q : Option Addr} {xs : List Ch} (h : At s Q (xs.map chc).flatten) {i : Nat} (hi : i < xs.length) {j : Nat} {v : Value} (hv : (chc xs[i])[j]? = some v) : ldq s (qadd (qadd Q (i * 3)) j) = some v := by
 have f3 := flat3 (css := xs.map chc) (fun x hx => by obtain ⟨y, _, rfl⟩ := List.mem_map.1 hx; rfl) (i := i) (x := chc xs[i]) (by rw [List.getElem?_map, List.getElem?_eq_getElem hi]; rfl)
 have hj : j < 3 := (List.getElem?_eq_some_iff.1 hv).1
 have hv' : ((xs.map chc).flatten.drop (i * 3) |>.take 3)[j]? = some v := by rw [f3.1]; exact hv
 rw [List.getElem?_take_of_lt hj, List.getElem?_drop] at hv'
 obtain ⟨y1, y2⟩ := List.getElem?_eq_some_iff.1 hv'
 rw [qadd_qadd, h.ld y1, y2]
set_option maxHeartbeats 1600000 in
theorem wholeR_ok {k c q : Int} {P R : List Nat} {Q : Option Addr} {xs ys : List Ch} {C N0 bl bm : Nat} (w0 : Wf s) (hP : P.length = 32) (hR : R.length = 32) (h : RcOk s Q xs) (hc : Cpy N0 s xs ys bl bm) (hx : ∀ x ∈ xs, (∀ y ∈ x.k, y < 256) ∧ ∀ y ∈ x.v, y < 256) :
  Cl B (.call 14 [.agg ⟨rcV k c q P R (.slice (some ⟨bl, 0, none⟩) xs.length (sure (xs.length + 1)))⟩, .agg ⟨rcV k c q P R (.slice Q xs.length C)⟩]) s fun v s' => v = .bool true ∧ Kn s s' := by
 have hy := hc.rc hx h.len
 have hlen := hc.len
 have hl42 := h.len
 refine Cl.enter Tryz.f14 fn14 rfl rfl rfl ?_
 refine run1 ?_
 obtain ⟨s2, b2, f1, f2, hb2, r1, r2, n2, k2⟩ := two_mk (cs := rcV k c q P R (.slice (some ⟨bl, 0, none⟩) xs.length (sure (xs.length + 1)))) (ds := rcV k c q P R (.slice Q xs.length C)) w0
 rw [show mkRow (mkRow s _) _ = s2 from f1, show (mkRow s _).nx = b2 from f2]
 have w2 : Wf s2 := k2.wf w0
 obtain ⟨b1, hb1⟩ : ∃ b, b = s.nx := ⟨_, rfl⟩
 rw [← hb1] at r1 ⊢
 have g1 : good (some ⟨b1, 0, none⟩) := good_b
 have g2 : good (some ⟨b2, 0, none⟩) := good_b
 have l1 := r1.all (n := 68) (rc_len hP hR) (by decide)
 have l2 := r2.all (n := 68) (rc_len hP hR) (by decide)
 have d5 : ldq s2 (qadd (some ⟨b2, 0, none⟩) 67) = some (.slice Q xs.length C) := r2.f1 (rc_chg hP hR)
 refine run1 ?_
 have hsm := rsame_ok (s := s2) (k := k) (c := c) (q := q) (Ca := sure (xs.length + 1)) (Cb := C) w2 hP hR (hy.kn w0 k2) (h.kn w0 k2) hc.same
 rw [hlen] at hsm
 refine Wo.call rfl (Xc.call ok37 rfl) rfl (hsm.mono ?_)
 rintro v s3 ⟨rfl, k3⟩
 have w3 : Wf s3 := k3.wf w2
 have k03 : Kn s s3 := k2.call k3
 have c3 := hc.kp w0 k03 (fun _ _ _ h => h)
 have a5 : ldq s3 (qadd (some ⟨b1, 0, none⟩) 67) = some (.slice (some ⟨bl, 0, none⟩) xs.length (sure (xs.length + 1))) := (r1.kp w2 k3 id).f1 (rc_chg hP hR)
 refine run1 ?_
 refine Wo.val rfl (Xv.sl0 rfl rfl rfl rfl (by rw [cap_sure.1]; omega) (fun _ => by rw [cap_sure.1])) rfl ?_
 have gl : good (some ⟨bl, 0, none⟩) := good_b
 have lm : ldq s3 (qadd (qadd (some ⟨bl, 0, none⟩) (xs.length * 3)) 0) = some (.slice (some ⟨bm, 0, none⟩) 4 (sure 4)) := by
  rw [qadd_qadd]
  refine c3.row.f1 ?_
  rw [List.getElem?_append_right (by rw [chs_len, hlen]; omega), chs_len, hlen, Nat.add_zero, Nat.sub_self]; rfl
 refine run1 ?_
 refine Wo.val rfl (Xv.b2s (A := mrkB) rfl rfl rfl rfl c3.mark.ats) rfl ?_
 have hst : ¬ (strB mrkB ≠ ⟨#[109, 97, 114, 107]⟩) := fun h => h rfl
 refine Wo.val rfl (Xv.sne rfl rfl) rfl (run1 ?_)
 refine W.loop (α := Nat) (fun i => [(2, .pointer (some ⟨b1, 0, none⟩)), (3, .pointer (some ⟨b2, 0, none⟩)), (5, nI xs.length), (6, nI i)]) (fun _ => []) (fun _ => s3)
  (fun i => i ≤ xs.length) (fun i => xs.length - i) 0 (Nat.zero_le _) (.cons rfl (.cons rfl (.cons rfl (.cons rfl .nil)))) rfl rfl (by show xs.length - 0 < _; omega) ?_
 intro i i1
 by_cases hi : i < xs.length
 ·have hj : i < ys.length := by omega
  obtain ⟨c1, c2, _⟩ := cv_at hc.same hi hj
  have hox := h.ok _ (List.getElem_mem hi)
  obtain ⟨⟨gk, o1, _⟩, ⟨gv, o2, _⟩⟩ := c3.own _ (List.getElem_mem hj)
  have hAx := (h.kn w0 k03).at'
  have hAy := c3.at'
  have ly0 := rc_ld hAy hj (j := 0) rfl
  have ly1 := rc_ld hAy hj (j := 1) rfl
  have lx0 := rc_ld hAx hi (j := 0) rfl
  have lx1 := rc_ld hAx hi (j := 1) rfl
  obtain ⟨x, ex⟩ : ∃ x, x = xs[i] := ⟨_, rfl⟩
  obtain ⟨y, ey⟩ : ∃ y, y = ys[i] := ⟨_, rfl⟩
  rw [← ex] at c1 c2 hox lx0 lx1
  rw [← ey] at c1 c2 o1 o2 ly0 ly1
  obtain ⟨⟨qk, ck, ek, bk1, bk2⟩, ⟨qv, cv', ev1, bv1, bv2⟩, _, _⟩ := hox
  obtain ⟨bk, cc, ek', rk, hck, hsk⟩ := o1.ex
  obtain ⟨bv, cw, ev', rv', hcv, hsv⟩ := o2.ex
  rw [ek] at lx0
  rw [ev1] at lx1
  rw [ek', c1] at ly0
  rw [ev', c2] at ly1
  rw [c1] at rk hck
  rw [c2] at rv' hcv
  have gQ : good Q := hAx.good (i := i * 3) (by rw [chs_len]; omega)
  have d53 : ldq s3 (qadd (some ⟨b2, 0, none⟩) 67) = some (.slice Q xs.length C) := (r2.kp w2 k3 id).f1 (rc_chg hP hR)
  have wk := whole_ok (c := cc) (d := ck) (X := [77, 78, 79]) rk.ats rfl hck hsk (bk1.kn w0 k03) bk2 bk2
  have wv := whole_ok (c := cw) (d := cv') (X := [77, 78, 79]) rv'.ats rfl hcv hsv (bv1.kn w0 k03) bv2 bv2
  refine run1 ?_
  refine W.dr [(0, .none, 0), (1, .reads, 1), (2, .none, 0), (3, .none, 7), (4, .none, 15), (5, .reads, 31), (6, .none, 0), (7, .reads, 64), (8, .none, 0), (9, .none, 448), (10, .none, 960), (11, .reads, 1984), (12, .acts, 4095), (13, .none, 8191), (14, .none, 16383), (15, .none, 32767), (16, .reads, 65535), (17, .none, 32767), (18, .none, 262143), (19, .none, 524287), (20, .reads, 1048575), (21, .none, 32767), (22, .reads, 2129919), (23, .none, 32767), (24, .none, 14712831), (25, .none, 31490047), (26, .reads, 65044479), (27, .acts, 134217727), (28, .none, 268435455), (29, .none, 536870911)] (by kernel_rfl) rfl (run1 ?_)
  refine Wd.call rfl (Xc.call ok38 rfl) rfl (wk.mono ?_)
  rintro v s' ⟨rfl, e'⟩
  rw [e', decide_eq_true ⟨rfl, rfl⟩]; clear e' s'
  refine ⟨Nat.le_refl _, run1 ?_⟩
  refine Wd.call rfl (Xc.call ok38 rfl) rfl (wv.mono ?_)
  rintro v s' ⟨rfl, e'⟩
  rw [e', decide_eq_true ⟨rfl, rfl⟩]; clear e' s'
  refine ⟨Nat.le_refl _, run1 ?_⟩
  exact rnd.n (i + 1) hi (by show xs.length - (i + 1) < xs.length - i; omega) (.cons rfl (.cons rfl (.cons rfl (.cons rfl .nil)))) rfl rfl
 ·refine run1 ?_
  exact Lv.ret rfl ⟨rfl, k03⟩
open Go Go.Ev Go.Sy
set_option maxRecDepth 100000
variable {s : St}
theorem rw_col {b γ δ : Nat} {l cs : List Value} (h : Rw s b l γ) (k : Sl s (some ⟨b, 0, none⟩) cs δ) : δ = γ := by
 obtain ⟨g, h1, h2⟩ := h
 rcases k with ⟨_, k | ⟨_, _, _, k⟩⟩ | ⟨b', o, ob, l', e, k1, k2, k3, _⟩
 ·cases k
 ·cases k
 ·cases e
  rw [h1] at k1
  cases k1
  rw [← k3]; exact h2
abbrev S0 : List Nat := List.replicate 32 0
theorem S0_b : ∀ x ∈ S0, x < 256 := fun x hx => by rw [List.eq_of_mem_replicate hx]; decide
theorem cutH {A : List Nat} {cb : Nat} : (cutOf (hmc S0 A) cb).length = 32 := ctN_length.trans hmc_length
def Coded1 (cb b r1 r2 r3 N : Nat) (A H : List Nat) (s' : St) : Prop := ∃ ql cl qa ca γl γa, Rw s' b (bkT 256 cb S0 (bl 0 r1 0 r2 1 r3 0)) b ∧ Mp s' r2 (mput H (.slice ql 1 cl) []) ∧ Sl s' ql [.slice qa A.length ca] γl ∧ N ≤ γl ∧ Sl s' qa (A.map nB) γa ∧ N ≤ γa
theorem Coded1.kp {cb b r1 r2 r3 N : Nat} {A H : List Nat} {s' : St} {C : Nat → Prop} (h : Coded1 cb b r1 r2 r3 N A H s) (w : Wf s) (k : Kp C s s') (hb : ¬ C b) (hr : ¬ C r2) (hN : ∀ c, N ≤ c → c < s.nx → ¬ C c) (hA : A ≠ []) : Coded1 cb b r1 r2 r3 N A H s' := by
 obtain ⟨ql, cl, qa, ca, γl, γa, h1, h2, h3, h4, h5, h6⟩ := h
 have l1 : γl < s.nx := by
  rcases h3 with ⟨e, _⟩ | ⟨b', o, ob, l', e, k1, k2, k3, _⟩
  ·cases e
  ·rw [← k3]; exact (w.lt _ _ k1).2
 have l2 : γa < s.nx := by
  rcases h5 with ⟨e, _⟩ | ⟨b', o, ob, l', e, k1, k2, k3, _⟩
  ·exact absurd (List.map_eq_nil_iff.1 e) hA
  ·rw [← k3]; exact (w.lt _ _ k1).2
 exact ⟨ql, cl, qa, ca, γl, γa, h1.kp w k hb, Mp.kp h2 w k hr, h3.kp w k (hN _ h4 l1), h4, h5.kp w k (hN _ h6 l2), h6⟩
theorem code1 {s0 : St} {cb b r1 r2 r3 : Nat} {A H : List Nat} (w0 : Wf s0) (hT : TabAt s0) (k0 : Kp (fun c => s0.nx ≤ c) s0 s) (hB : Rw s b (bkT 256 cb S0 (bl 0 r1 0 r2 0 r3 0)) b) (hM : Mp s r2 []) (hr : s0.nx ≤ r2 ∧ r2 < b) (hcb : cb ≤ 256) (hA : ∀ x ∈ A, x < 256) (hl : A.length < 2 ^ 40) (hH : H = cutOf (hmc S0 A) cb) :
  ∀ s3 bb, Kn s s3 → s.nx ≤ bb → Rw s3 bb (A.map nB) bb → Cl B (.call 32 [.pointer (some ⟨b, 0, none⟩), .slice (some ⟨bb, 0, none⟩) A.length (sure A.length)]) s3 fun v s4 => v = hsh H ∧ Kp (fun c => c = b ∨ c = r2) s3 s4 ∧ ∀ s', Kp (fun c => s.nx ≤ c ∧ c < s3.nx) s4 s' → Coded1 cb b r1 r2 r3 s.nx A H s' := by
 intro s3 bb k3 hbb hA3
 have w : Wf s := k0.wf w0
 have w3 : Wf s3 := k3.wf w
 have hbn := (hB.lt w).1
 have k03 : Kp (fun c => s0.nx ≤ c) s0 s3 := k0.trans (k3.mono fun _ h => absurd h id)
 refine (code_new (n1 := 0) (n3 := 0) w3 (hT.kpN w0 k03) (hB.kp w k3 id) (Mp.kp hM w k3 id) (by omega) rfl S0_b hA3.ats hA (Cap.sure (Nat.le_refl _)) hl hcb hH (by decide) rfl (fun s' k => hT.kpN w0 (k03.trans (k.mono fun c h => by omega))) (fun δ hδ => by have := rw_col hA3 hδ; omega)).mono ?_
 rintro v s4 ⟨rfl, ql, cl, qa, ca, γl, γa, h1, h2, h3, h4, h5, h6, h7⟩
 have w4 : Wf s4 := h7.wf w3
 have e3 := k3.le
 refine ⟨rfl, h7, fun s' k => ⟨ql, cl, qa, ca, γl, γa, h1.kp w4 k (by omega), Mp.kp h2 w4 k (by omega), h3.kp w4 k (by omega), by omega, h5.kp w4 k (by omega), by omega⟩⟩
theorem code2 {s0 : St} {cb b r1 r2 r3 N : Nat} {A H : List Nat} (w0 : Wf s0) (hT : TabAt s0) (k0 : Kp (fun c => s0.nx ≤ c) s0 s) (hC : Coded1 cb b r1 r2 r3 N A H s) (hr : s0.nx ≤ r2 ∧ r2 < b ∧ b < N) (hcb : cb ≤ 256) (hA : ∀ x ∈ A, x < 256) (hA0 : A ≠ []) (hl : A.length < 2 ^ 40) (hH : H = cutOf (hmc S0 A) cb) (hN : N ≤ s.nx) :
  ∀ s3 bb, Kn s s3 → s.nx ≤ bb → Rw s3 bb (A.map nB) bb → Cl B (.call 32 [.pointer (some ⟨b, 0, none⟩), .slice (some ⟨bb, 0, none⟩) A.length (sure A.length)]) s3 fun v s4 => v = hsh H ∧ Kp (fun c => c = b) s3 s4 ∧ ∀ s', Kp (fun c => s.nx ≤ c ∧ c < s3.nx) s4 s' → Rw s' b (bkT 256 cb S0 (bl 0 r1 0 r2 1 r3 0)) b := by
 intro s3 bb k3 hbb hA3
 have w : Wf s := k0.wf w0
 have w3 : Wf s3 := k3.wf w
 have k03 : Kp (fun c => s0.nx ≤ c) s0 s3 := k0.trans (k3.mono fun _ h => absurd h id)
 obtain ⟨ql, cl, qa, ca, γl, γa, h1, h2, h3, h4, h5, h6⟩ := hC.kp w k3 id id (fun _ _ _ h => h) hA0
 refine (code_old (n1 := 0) (n2 := 1) (n3 := 0) (ql := ql) (cl := cl) w3 (hT.kpN w0 k03) h1 h2 (by omega) rfl S0_b hA3.ats hA (Cap.sure (Nat.le_refl _)) hl hcb hH (by rw [mget_put, if_pos rfl]) h3 (by omega) h5 (by omega) (fun s' k => hT.kpN w0 (k03.trans (k.mono fun c h => by omega))) (fun δ hδ => by have := rw_col hA3 hδ; omega)).mono ?_
 rintro v s4 ⟨rfl, h7, h8⟩
 have w4 : Wf s4 := h8.wf w3
 exact ⟨rfl, h8, fun s' k => h7.kp w4 k (by omega)⟩
end Go.Proofs.YteldpcbhfbgomaaGreatDoor
