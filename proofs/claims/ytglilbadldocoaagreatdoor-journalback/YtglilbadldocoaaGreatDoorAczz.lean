import Derived.Test.YtglilbadldocoaaGreatDoorJtzz
import Derived.Test.YtglilbadldocoaaGreatDoorCwzz
import Derived.Test.YtglilbadldocoaaGreatDoorCpzz
namespace Go.Proofs.YtglilbadldocoaaGreatDoor
open Go Go.Ev Go.Sy
set_option maxRecDepth 100000
variable {s s0 : St} {p γ δ n c m N d : Nat} {q : Option Addr} {A D F : List Nat} {L cs : List Value}
theorem kid_ld {css : List (List Value)} (h : At s q css.flatten) (hl : ∀ x ∈ css, x.length = 3) {i : Nat} {x : List Value} (hx : css[i]? = some x) {j : Nat} {v : Value} (hv : x[j]? = some v) : ldq s (qadd (qadd q (i * 3)) j) = some v := by
 obtain ⟨h1, h2⟩ := flat3 hl hx
 have hj : j < 3 := by rw [← hl x (List.mem_of_getElem? hx)]; exact (List.getElem?_eq_some_iff.1 hv).1
 have h3 : i * 3 + j < css.flatten.length := by omega
 have h4 : css.flatten[i * 3 + j] = v := by
  have e : ((css.flatten.drop (i * 3)).take 3)[j]? = some v := by rw [h1]; exact hv
  rw [List.getElem?_take, if_pos hj, List.getElem?_drop, List.getElem?_eq_getElem h3] at e
  exact Option.some.inj e
 have h5 := At.ld h h3
 rw [h4] at h5
 rw [← h5]
 obtain ⟨b, o, rfl⟩ := h.good h3
 show ldq s (some ⟨b, o + i * 3 + j, none⟩) = ldq s (some ⟨b, o + (i * 3 + j), none⟩)
 rw [Nat.add_assoc]
open Go Go.Ev Go.Sy
set_option maxRecDepth 100000
variable {s : St}
theorem cv_at {xs ys : List Ch} (h : ys.map cv = xs.map cv) {i : Nat} (hi : i < xs.length) (hj : i < ys.length) : ys[i].k = xs[i].k ∧ ys[i].v = xs[i].v ∧ ys[i].g = xs[i].g := by
 have := congrArg (·[i]?) h
 simp only [List.getElem?_map, List.getElem?_eq_getElem hi, List.getElem?_eq_getElem hj, Option.map_some] at this
 have e := Option.some.inj this
 unfold cv at e
 injection e with e1 e2
 injection e2 with e2 e3
 exact ⟨e1, e2, e3⟩
theorem eqV_ch {q q' : Option Addr} {n c n' c' : Nat} {g : Bool} : eqV 5 (.agg ⟨[.slice q n c, .slice q' n' c', .bool g]⟩) (.agg ⟨[.slice q n c, .slice q' n' c', .bool g]⟩) = true := eqV_agg fun v hv => by
 simp only [List.mem_cons, List.not_mem_nil, or_false] at hv
 rcases hv with rfl | rfl | rfl
 ·exact eqV4
 ·exact eqV4
 ·cases g <;> rfl
set_option maxHeartbeats 1600000 in
theorem rsame_ok {k c q : Int} {P R : List Nat} {Qa Qb : Option Addr} {xs ys : List Ch} {Ca Cb : Nat} (w0 : Wf s) (hP : P.length = 32) (hR : R.length = 32) (ha : RcOk s Qa ys) (hb : RcOk s Qb xs) (he : ys.map cv = xs.map cv) :
  Cl B (.call 11 [.agg ⟨rcV k c q P R (.slice Qa ys.length Ca)⟩, .agg ⟨rcV k c q P R (.slice Qb xs.length Cb)⟩]) s fun v s' => v = .bool true ∧ Kn s s' := by
 have hlen : ys.length = xs.length := by have := congrArg List.length he; simpa using this
 refine Cl.enter Tryz.f11 fn11 rfl rfl rfl ?_
 refine run1 ?_
 obtain ⟨s2, b2, f1, f2, hb2, r1, r2, n2, k2⟩ := two_mk (cs := rcV k c q P R (.slice Qa ys.length Ca)) (ds := rcV k c q P R (.slice Qb xs.length Cb)) w0
 rw [show mkRow (mkRow s _) _ = s2 from f1, show (mkRow s _).nx = b2 from f2]
 have w2 : Wf s2 := k2.wf w0
 obtain ⟨b1, hb1⟩ : ∃ b, b = s.nx := ⟨_, rfl⟩
 rw [← hb1] at r1 ⊢
 have g1 : good (some ⟨b1, 0, none⟩) := good_b
 have g2 : good (some ⟨b2, 0, none⟩) := good_b
 have a0 : ldq s2 (qadd (some ⟨b1, 0, none⟩) 0) = some (I k) := r1.f1 rfl
 have a1 : ldq s2 (qadd (some ⟨b1, 0, none⟩) 1) = some (I c) := r1.f1 rfl
 have a2 : ldq s2 (qadd (some ⟨b1, 0, none⟩) 2) = some (I q) := r1.f1 rfl
 have a5 : ldq s2 (qadd (some ⟨b1, 0, none⟩) 67) = some (.slice Qa ys.length Ca) := r1.f1 (rc_chg hP hR)
 have d0 : ldq s2 (qadd (some ⟨b2, 0, none⟩) 0) = some (I k) := r2.f1 rfl
 have d1 : ldq s2 (qadd (some ⟨b2, 0, none⟩) 1) = some (I c) := r2.f1 rfl
 have d2 : ldq s2 (qadd (some ⟨b2, 0, none⟩) 2) = some (I q) := r2.f1 rfl
 have d5 : ldq s2 (qadd (some ⟨b2, 0, none⟩) 67) = some (.slice Qb xs.length Cb) := r2.f1 (rc_chg hP hR)
 have eP : ∀ x : Value, ((rcV k c q P R x).drop 3).take 32 = P.map nB := fun x => List.take_left' (by rw [List.length_map, hP])
 have eR : ∀ x : Value, ((rcV k c q P R x).drop 35).take 32 = R.map nB := fun x => by
  show ((P.map nB ++ (R.map nB ++ [x])).drop 32).take 32 = _
  rw [List.drop_left' (by rw [List.length_map, hP]), List.take_left' (by rw [List.length_map, hR])]
 have a3 : ldn s2 (qadd (some ⟨b1, 0, none⟩) 3) 32 = some (P.map nB) := by rw [r1.fn (i := 3) (n := 32) (by rw [rc_len hP hR]; decide) (by decide), eP]
 have a4 : ldn s2 (qadd (some ⟨b1, 0, none⟩) 35) 32 = some (R.map nB) := by rw [r1.fn (i := 35) (n := 32) (by rw [rc_len hP hR]; decide) (by decide), eR]
 have d3 : ldn s2 (qadd (some ⟨b2, 0, none⟩) 3) 32 = some (P.map nB) := by rw [r2.fn (i := 3) (n := 32) (by rw [rc_len hP hR]; decide) (by decide), eP]
 have d4 : ldn s2 (qadd (some ⟨b2, 0, none⟩) 35) 32 = some (R.map nB) := by rw [r2.fn (i := 35) (n := 32) (by rw [rc_len hP hR]; decide) (by decide), eR]
 have hk : ¬ k ≠ k := fun h => h rfl
 have hc : ¬ c ≠ c := fun h => h rfl
 have hq : ¬ q ≠ q := fun h => h rfl
 have hPP : ¬ P ≠ P := fun h => h rfl
 have hRR : ¬ R ≠ R := fun h => h rfl
 have hll : ¬ ys.length ≠ xs.length := fun h => h hlen
 refine run1 ?_
 refine Wo.val (gT' rfl hq) (Xv.neH HH HG rfl rfl hP hP) rfl (run1 ?_)
 refine Wo.val (gT' rfl hPP) (Xv.neH HH HG rfl rfl hR hR) rfl (run1 ?_)
 have hlb := hb.len
 refine W.loop (α := Nat × St) (fun a => [(2, .pointer (some ⟨b1, 0, none⟩)), (3, .pointer (some ⟨b2, 0, none⟩)), (5, nI a.1)]) (fun _ => []) (fun a => a.2)
  (fun a => a.1 ≤ xs.length ∧ Kn s2 a.2) (fun a => xs.length - a.1) (0, s2) ⟨Nat.zero_le _, .refl⟩ (.cons rfl (.cons rfl (.cons rfl .nil))) rfl rfl (by show xs.length - 0 < _; omega) ?_
 rintro ⟨i, t⟩ ⟨i1, kt⟩
 simp only at i1 kt
 dsimp only
 have wt : Wf t := kt.wf w2
 have k0t : Kn s t := k2.call kt
 have t1 := r1.kp w2 kt id
 have t2 := r2.kp w2 kt id
 have a5t : ldq t (qadd (some ⟨b1, 0, none⟩) 67) = some (.slice Qa ys.length Ca) := t1.f1 (rc_chg hP hR)
 have d5t : ldq t (qadd (some ⟨b2, 0, none⟩) 67) = some (.slice Qb xs.length Cb) := t2.f1 (rc_chg hP hR)
 by_cases hi : i < xs.length
 ·have hj : i < ys.length := by omega
  obtain ⟨c1, c2, c3⟩ := cv_at he hi hj
  have hox := hb.ok _ (List.getElem_mem hi)
  have hoy := ha.ok _ (List.getElem_mem hj)
  obtain ⟨gA, lyA⟩ := (ha.kn w0 k0t).kid hj
  obtain ⟨gB, lxB⟩ := (hb.kn w0 k0t).kid hi
  have lxB' : ∀ {t' : St}, Kn t t' → ldn t' (qadd Qb (i * 3)) 3 = some (chc xs[i]) := fun k => ((hb.kn w0 (k0t.call k)).kid hi).2
  obtain ⟨x, ex⟩ : ∃ x, x = xs[i] := ⟨_, rfl⟩
  obtain ⟨y, ey⟩ : ∃ y, y = ys[i] := ⟨_, rfl⟩
  rw [← ex] at c1 c2 c3 hox lxB lxB'
  rw [← ey] at c1 c2 c3 hoy lyA
  have hone := hoy.one
  have hone' := hox.one
  obtain ⟨⟨qk, ck, ek, bk1, bk2⟩, ⟨qv, cv', ev1, bv1, bv2⟩, _, _⟩ := hox
  obtain ⟨⟨qk', ck', ek', bk1', bk2'⟩, ⟨qv', cv'', ev1', bv1', bv2'⟩, _, _⟩ := hoy
  rw [chc, ek, ev1] at lxB lxB' hone'
  rw [chc, ek', ev1', c1, c2, c3] at lyA hone
  rw [c1] at bk1'
  rw [c2] at bv1'
  refine run1 ?_
  refine W.dr [(0, .none, 0), (1, .reads, 1), (2, .none, 0), (3, .none, 7), (4, .reads, 15), (10, .makes, 0), (11, .makes, 0), (12, .acts, 3103), (5, .none, 0), (6, .reads, 32), (7, .none, 0), (8, .none, 224), (9, .reads, 480), (13, .acts, 8191)] (by kernel_rfl) rfl (run1 ?_)
  refine Wd.read rfl (Xv.ldN rfl rfl rfl lyA) rfl eqV_ch ⟨Xv.ldN rfl rfl rfl lyA, trivial⟩ (run1 ?_)
  obtain ⟨t3, b7, f1, f2, hb7, p6, p7, n3, k3⟩ := two_mk (cs := [.slice none 0 0, .slice none 0 0, .bool false]) (ds := [.slice none 0 0, .slice none 0 0, .bool false]) wt
  rw [show mkRow (mkRow t _) _ = t3 from f1, show (mkRow t _).nx = b7 from f2]
  have wt3 : Wf t3 := k3.wf wt
  obtain ⟨b6, hb6⟩ : ∃ b, b = t.nx := ⟨_, rfl⟩
  rw [← hb6] at p6 ⊢
  refine Wd.st rfl rfl rfl rfl rfl rfl rfl hone p6 (by decide) fun t4 p4 m4 j4 => ?_
  have p4' : Rw t4 b6 [.slice qk' x.k.length ck', .slice qv' x.v.length cv'', .bool x.g] b6 := p4
  have k4 : Kn t t4 := k3.app j4 (by omega)
  have wt4 : Wf t4 := k4.wf wt
  have d54 : ldq t4 (qadd (some ⟨b2, 0, none⟩) 67) = some (.slice Qb xs.length Cb) := (t2.kp wt k4 id).f1 (rc_chg hP hR)
  refine run1 ?_
  have lx4 := lxB' k4
  refine Wd.read rfl (Xv.ldN rfl rfl rfl lx4) rfl eqV_ch ⟨Xv.ldN rfl rfl rfl lx4, Xv.ldN rfl rfl rfl lxB, trivial⟩ ?_
  refine Wd.st rfl rfl rfl rfl rfl rfl rfl hone' (p7.kp wt3 j4 (by omega)) (by decide) fun t5 p5 m5 j5 => ?_
  have p5' : Rw t5 b7 [.slice qk x.k.length ck, .slice qv x.v.length cv', .bool x.g] b7 := p5
  have p65 := p4'.kp wt4 j5 (by omega)
  have k5 : Kn t t5 := k4.app j5 (by omega)
  have wt5 : Wf t5 := k5.wf wt
  have k05 : Kn s t5 := k0t.call k5
  have g6 : good (some ⟨b6, 0, none⟩) := good_b
  have g7 : good (some ⟨b7, 0, none⟩) := good_b
  have u0 : ldq t5 (qadd (some ⟨b6, 0, none⟩) 0) = some (.slice qk' x.k.length ck') := p65.f1 rfl
  have u1 : ldq t5 (qadd (some ⟨b6, 0, none⟩) 1) = some (.slice qv' x.v.length cv'') := p65.f1 rfl
  have u2 : ldq t5 (qadd (some ⟨b6, 0, none⟩) 2) = some (.bool x.g) := p65.f1 rfl
  have v0 : ldq t5 (qadd (some ⟨b7, 0, none⟩) 0) = some (.slice qk x.k.length ck) := p5'.f1 rfl
  have v1 : ldq t5 (qadd (some ⟨b7, 0, none⟩) 1) = some (.slice qv x.v.length cv') := p5'.f1 rfl
  have v2 : ldq t5 (qadd (some ⟨b7, 0, none⟩) 2) = some (.bool x.g) := p5'.f1 rfl
  refine run1 ?_
  refine Wo.val rfl (Xv.neB rfl rfl rfl) rfl ?_
  rw [show (!(x.g == x.g)) = false by simp]
  refine run1 ?_
  refine Wo.call rfl (Xc.call ok17 rfl) rfl ((same_ok (bk1'.kn w0 k05) (bk1.kn w0 k05) (by omega) (by omega)).mono ?_)
  rintro v s' ⟨rfl, e'⟩
  rw [e', decide_eq_true rfl]; clear e' s'
  refine run1 ?_
  refine Wo.call rfl (Xc.call ok17 rfl) rfl ((same_ok (bv1'.kn w0 k05) (bv1.kn w0 k05) (by omega) (by omega)).mono ?_)
  rintro v s' ⟨rfl, e'⟩
  rw [e', decide_eq_true rfl]; clear e' s'
  refine run1 ?_
  exact rnd.n (i + 1, t5) ⟨hi, kt.call k5⟩ (by show xs.length - (i + 1) < xs.length - i; omega) (.cons rfl (.cons rfl (.cons rfl .nil))) rfl rfl
 ·have hj : ¬ i < ys.length := by omega
  refine run1 ?_
  exact Lv.ret rfl ⟨rfl, k0t⟩
open Go Go.Ev Go.Sy
set_option maxRecDepth 100000
variable {s : St}
theorem Cpy.at' {N0 : Nat} {xs ys : List Ch} {bl bm : Nat} (h : Cpy N0 s xs ys bl bm) : At s (some ⟨bl, 0, none⟩) (ys.map chc).flatten := by
 have := (h.row.sl (o := 0) (n := (ys.map chc).flatten.length) (by rw [List.length_append]; omega)).at
 rwa [List.drop_zero, List.take_left] at this
theorem Cpy.rc {N0 : Nat} {xs ys : List Ch} {bl bm : Nat} (h : Cpy N0 s xs ys bl bm) (hx : ∀ x ∈ xs, (∀ y ∈ x.k, y < 256) ∧ ∀ y ∈ x.v, y < 256) (hl : xs.length < 2 ^ 42) : RcOk s (some ⟨bl, 0, none⟩) ys := by
 refine ⟨h.at', fun y hy => ?_, by rw [h.len]; exact hl⟩
 obtain ⟨⟨g, o1, _⟩, ⟨j, o2, _⟩⟩ := h.own y hy
 obtain ⟨i, hi, rfl⟩ := List.getElem_of_mem hy
 have hi' : i < xs.length := by have := h.len; omega
 obtain ⟨e1, e2, _⟩ := cv_at h.same hi' hi
 have := hx _ (List.getElem_mem hi')
 exact ⟨o1.bs, o2.bs, by rw [e1]; exact this.1, by rw [e2]; exact this.2⟩
open Go Go.Ev Go.Sy
set_option maxRecDepth 100000
variable {s : St}
theorem rw_col {b γ δ : Nat} {l cs : List Value} (h : Rw s b l γ) (k : Sl s (some ⟨b, 0, none⟩) cs δ) : δ = γ := by
 obtain ⟨g, h1, h2⟩ := h
 rcases k with ⟨_, k | ⟨_, _, _, k⟩⟩ | ⟨b', o, ob, l', e, k1, k2, k3, _⟩
 ·cases k
 ·cases k
 ·cases e
  rw [h1] at k1
  cases k1
  rw [← k3]; exact h2
abbrev S0 : List Nat := List.replicate 32 0
theorem S0_b : ∀ x ∈ S0, x < 256 := fun x hx => by rw [List.eq_of_mem_replicate hx]; decide
theorem cutH {A : List Nat} {cb : Nat} : (cutOf (hmc S0 A) cb).length = 32 := ctN_length.trans hmc_length
open Go Go.Ev Go.Sy
set_option maxRecDepth 100000
variable {s s0 : St} {p γ δ n c m N d : Nat} {q : Option Addr} {A D F : List Nat} {L cs : List Value}
theorem rc_one {k c q : Int} {P R : List Nat} {y : Option Addr} {n m : Nat} : ∀ v ∈ rcV k c q P R (.slice y n m), one v = true := fun v hv => by
 unfold rcV at hv
 rcases List.mem_cons.1 hv with rfl | hv
 ·rfl
 rcases List.mem_cons.1 hv with rfl | hv
 ·rfl
 rcases List.mem_cons.1 hv with rfl | hv
 ·rfl
 rcases List.mem_append.1 hv with hv | hv
 ·exact one_nB v hv
 rcases List.mem_append.1 hv with hv | hv
 ·exact one_nB v hv
 ·rw [List.mem_singleton.1 hv]; rfl
theorem eqV_im (h : Im s d cs) : eqV 5 (.agg ⟨cs⟩) (.agg ⟨cs⟩) = true := by
 obtain ⟨g, q, n, c, q', n', c', rfl⟩ := h.cells
 refine eqV_agg fun v hv => ?_
 simp only [List.mem_cons, List.not_mem_nil, or_false] at hv
 rcases hv with rfl | rfl | rfl
 ·cases g <;> rfl
 ·exact eqV4
 ·exact eqV4
theorem cellsL_int {k : IntKind} {z : Int} : cellsL (.int k z) = some [.int k z] := by
 show fV (.int k z) (fun v => some [v]) = _
 exact fV_eq _ _
theorem cellsL_sl {q : Option Addr} {n c : Nat} : cellsL (.slice q n c) = some [.slice q n c] := by
 show fV (.slice q n c) (fun v => some [v]) = _
 exact fV_eq _ _
theorem one1 {v : Value} (h : one v = true) : ∀ u ∈ [v], one u = true := fun u hu => by rw [List.mem_singleton.1 hu]; exact h
theorem rc_set3 {a b c : Int} {P R Z : List Nat} {x : Value} (h : P.length = Z.length) : lov (rcV a b c Z R x) 3 (P.map nB) = rcV a b c P R x := lov_app (a := [I a, I b, I c]) rfl (by rw [List.length_map, List.length_map, h])
theorem rc_set35 {a b c : Int} {P R Z : List Nat} {x : Value} (hP : P.length = 32) (h : R.length = Z.length) : lov (rcV a b c P Z x) 35 (R.map nB) = rcV a b c P R x := lov_app (a := I a :: I b :: I c :: P.map nB) (by simp [hP]) (by rw [List.length_map, List.length_map, h])
theorem rc_set67 {a b c : Int} {P R : List Nat} {x y : Value} (hP : P.length = 32) (hR : R.length = 32) : lov (rcV a b c P R x) 67 [y] = rcV a b c P R y := by
 have e : ∀ z : Value, rcV a b c P R z = (I a :: I b :: I c :: (P.map nB ++ R.map nB)) ++ ([z] ++ []) := fun z => by simp [rcV]
 rw [e, e]
 exact lov_app (by simp [hP, hR]) rfl
theorem rc_eqV {k c q : Int} {P R : List Nat} {y : Option Addr} {n m : Nat} : ∀ v ∈ rcV k c q P R (.slice y n m), eqV 4 v v = true := fun v hv => by
 unfold rcV at hv
 rcases List.mem_cons.1 hv with rfl | hv
 ·exact eqV4i
 rcases List.mem_cons.1 hv with rfl | hv
 ·exact eqV4i
 rcases List.mem_cons.1 hv with rfl | hv
 ·exact eqV4i
 rcases List.mem_append.1 hv with hv | hv
 ·exact eqV_b v hv
 rcases List.mem_append.1 hv with hv | hv
 ·exact eqV_b v hv
 ·rw [List.mem_singleton.1 hv]; exact eqV4
abbrev rc0 : List Value := rcV 0 0 0 (List.replicate 32 0) (List.replicate 32 0) (.slice none 0 0)
open Go Go.Ev Go.Sy
set_option maxRecDepth 100000
variable {s s0 : St} {p γ δ n c m N d : Nat} {q : Option Addr} {A D F G C : List Nat} {L cs : List Value}
theorem take_eq_iff {G C : List Nat} {i : Nat} (h1 : i < G.length) (h2 : i < C.length) : G.take (i + 1) = C.take (i + 1) ↔ G.take i = C.take i ∧ G.getD i 0 = C.getD i 0 := by
 rw [List.take_succ_eq_append_getElem h1, List.take_succ_eq_append_getElem h2, List.getD_eq_getElem?_getD, List.getD_eq_getElem?_getD, List.getElem?_eq_getElem h1, List.getElem?_eq_getElem h2]
 constructor
 ·intro h
  have := List.append_inj h (by rw [List.length_take, List.length_take]; omega)
  exact ⟨this.1, by simpa using this.2⟩
 ·rintro ⟨h3, h4⟩
  have h4 : G[i] = C[i] := h4
  rw [h3, h4]
theorem xor_zero_iff {x y : Nat} : x ^^^ y = 0 ↔ x = y := by
 constructor
 ·intro h
  have e : (x ^^^ y) ^^^ y = 0 ^^^ y := by rw [h]
  rw [Nat.xor_assoc, Nat.xor_self, Nat.xor_zero, Nat.zero_xor] at e
  exact e
 ·rintro rfl; exact Nat.xor_self _
theorem mequal_ok (w0 : Wf s) (hG : G.length = 32) (hC : C.length = 32) (bG : ∀ x ∈ G, x < 256) (bC : ∀ x ∈ C, x < 256) : Cl B (.call 67 [hsh G, hsh C]) s fun v s' => v = .bool (decide (G = C)) ∧ Kn s s' := by
 refine Cl.enter Tryz.f67 fn67 rfl rfl rfl ?_
 refine run1 ?_
 generalize hs1 : mkRow s (G.map nB) = s1
 generalize hs2 : mkRow s1 (C.map nB) = s2
 have r1 : Rw s1 s.nx (G.map nB) s.nx := hs1 ▸ mkRow_rw
 have k1 : Kn s s1 := hs1 ▸ mkRow_kn
 have r2 : Rw s2 s1.nx (C.map nB) s1.nx := hs2 ▸ mkRow_rw
 have k2 : Kn s1 s2 := hs2 ▸ mkRow_kn
 have w1 := k1.wf w0
 have R1 := r1.kp w1 k2 id
 refine W.loop (α := Nat × Nat) (fun a => [(2, .pointer (some ⟨s.nx, 0, none⟩)), (3, .pointer (some ⟨s1.nx, 0, none⟩)), (5, nB a.2), (7, nI a.1)]) (fun _ => []) (fun _ => s2)
  (fun a => a.1 ≤ 32 ∧ a.2 < 256 ∧ (a.2 = 0 ↔ G.take a.1 = C.take a.1)) (fun a => 32 - a.1) (0, 0) ⟨Nat.zero_le _, by decide, ⟨fun _ => rfl, fun _ => rfl⟩⟩ (.cons rfl (.cons rfl (.cons rfl (.cons rfl .nil)))) rfl rfl (by decide) ?_
 rintro ⟨i, a⟩ ⟨i1, i2, i3⟩
 simp only at i1 i2 i3
 dsimp only
 by_cases hi : i < 32
 ·have hx := mem_getD bG i
  have hy := mem_getD bC i
  obtain ⟨x, ex⟩ : ∃ x, x = G.getD i 0 := ⟨_, rfl⟩
  obtain ⟨y, ey⟩ : ∃ y, y = C.getD i 0 := ⟨_, rfl⟩
  rw [← ex] at hx
  rw [← ey] at hy
  have lg : ldq s2 (some ⟨s.nx, 0 + i * 1, none⟩) = some (nB x) := by
   rw [Nat.mul_one, ex]
   exact R1.f1 (by rw [List.getElem?_map, List.getD_eq_getElem?_getD, List.getElem?_eq_getElem (by omega)]; rfl)
  have lc : ldq s2 (some ⟨s1.nx, 0 + i * 1, none⟩) = some (nB y) := by
   rw [Nat.mul_one, ey]
   exact r2.f1 (by rw [List.getElem?_map, List.getD_eq_getElem?_getD, List.getElem?_eq_getElem (by omega)]; rfl)
  refine run1 ?_
  refine W.dr [(0, .none, 0), (1, .none, 0), (2, .none, 2), (3, .reads, 6), (4, .none, 0), (5, .none, 16), (6, .reads, 48), (7, .none, 126), (8, .none, 255), (9, .none, 511)] (by kernel_rfl) rfl (run1 ?_)
  refine Wd.val rfl (Xv.iaP rfl rfl rfl rfl hi) rfl (Nat.le_refl _) (run1 ?_)
  refine Wd.val rfl (Xv.iaP rfl rfl rfl rfl hi) rfl (Nat.le_refl _) (run1 ?_)
  refine rnd.n (i + 1, Nat.mod (Nat.lor a (Nat.mod (Nat.xor x y) 256)) 256) ⟨hi, Nat.mod_lt _ (by decide), ?_⟩ (by show 32 - (i + 1) < 32 - i; omega) (.cons rfl (.cons rfl (.cons rfl (.cons rfl .nil)))) rfl rfl
  show Nat.mod (Nat.lor a (Nat.mod (Nat.xor x y) 256)) 256 = 0 ↔ G.take (i + 1) = C.take (i + 1)
  have e1 : Nat.mod (Nat.xor x y) 256 = x ^^^ y := Nat.mod_eq_of_lt (Nat.xor_lt_two_pow (n := 8) hx hy)
  have e2 : Nat.mod (Nat.lor a (x ^^^ y)) 256 = a ||| (x ^^^ y) := Nat.mod_eq_of_lt (Nat.or_lt_two_pow (n := 8) i2 (Nat.xor_lt_two_pow (n := 8) hx hy))
  rw [e1, e2, take_eq_iff (by omega) (by omega), ← i3, Nat.or_eq_zero_iff, xor_zero_iff, ← ex, ← ey]
 ·obtain rfl : i = 32 := by omega
  rw [List.take_of_length_le (by omega), List.take_of_length_le (by omega)] at i3
  refine run1 ?_
  refine Lv.ret rfl ⟨?_, k1.call k2⟩
  exact congrArg Value.bool (decide_eq_decide.2 i3)
theorem has_ok {b o : Nat} {l : List Value} {r : Nat} {M : MpE} {H : List Nat} {ql : Option Addr} {m cl i : Nat} {f : Bool} (w0 : Wf s) (hb : Rw s b l γ) (hm : l[o]? = some (.map (some r))) (hM : Mp s r M) (hH : H.length = 32) (hV : (mget H M).getD (.slice none 0 0) = .slice ql m cl)
  (hs : ∀ s', Kn s s' → Cl B (.call 95 [.slice ql m cl, .slice q A.length c, bcf]) s' fun v s'' => v = .tuple ⟨[nI i, .bool f]⟩ ∧ s'' = s') :
  Cl B (.call 68 [.pointer (some ⟨b, o, none⟩), hsh H, .slice q A.length c]) s fun v s' => v = .bool f ∧ Kn s s' := by
 refine Cl.enter Tryz.f68 fn68 rfl rfl rfl ?_
 refine run1 ?_
 refine mkO (cs := H.map nB) fun s1 r1 n1 k1 => ?_
 have w1 : Wf s1 := k1.wf w0
 have l1 := r1.all (n := 32) (by rw [List.length_map, hH]) (by decide)
 refine run1 ?_
 refine Wo.call rfl (Xc.call ok60 rfl) rfl ((place_ok w1 (hb.kp w0 k1 id) hm (hM.kp w0 k1 id) hH hV fun s' k => hs s' (k1.call k)).mono ?_)
 rintro v s2 ⟨rfl, k2⟩
 refine run1 ?_
 exact Lv.ret rfl ⟨rfl, k1.call k2⟩
end Go.Proofs.YtglilbadldocoaaGreatDoor
