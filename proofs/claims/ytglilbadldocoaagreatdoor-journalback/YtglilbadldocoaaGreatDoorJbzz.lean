import Derived.Test.YtglilbadldocoaaGreatDoorLbzz
import Derived.Test.YtglilbadldocoaaGreatDoorAczz
import Derived.Test.YtglilbadldocoaaGreatDoorJszz
import Derived.Test.YtglilbadldocoaaGreatDoorCpzz
namespace Go.Sy
open Go Go.Ev
section
variable {X : Fx} {env : Env} {df : List Deferred} {s : St} {Q : Post}
structure outx {α : Type} (id : Nat) (I : α → Env) (S : α → St) (ok : α → Prop) (df : List Deferred) (e : Ex) (env : Env) (df' : List Deferred) (s' : St) : Prop where
 h : e = .exit id ∧ ∃ i, ok i ∧ Sub (I i) env ∧ df' = df ∧ s' = S i
theorem outx.x {α : Type} {id : Nat} {I : α → Env} {S : α → St} {ok : α → Prop} (i : α) (h : ok i) (h1 : Sub (I i) env) (h2 : s = S i) : outx id I S ok df (.exit id) env df s := ⟨rfl, i, h, h1, rfl, h2⟩
theorem W.out {α : Type} {id : Nat} (I : α → Env) (S : α → St) (ok : α → Prop) {c rest : Code} (h : W X c env df s (outx id I S ok df)) (k : ∀ i, ok i → W X rest (I i) df (S i) Q) : W X c env df s (blk id (andThen X rest Q)) :=
 ⟨h.w.mono fun _ _ _ _ m => by obtain ⟨rfl, i, hi, hs, rfl, rfl⟩ := m.h; exact blk.x (andThen.n ((k i hi).sub hs))⟩
theorem Wo.meet0 {α : Type} (I : α → Env) (S : α → St) (ok : α → Prop) {all ops : List Oper} {c : Code} (h : Wo X all ops env df s (Go.Sy.meet I S ok df)) (k : ∀ i, ok i → W X c (I i) df (S i) Q) : Wo X all ops env df s (andThen X c Q) :=
 ⟨h.w.mono fun _ _ _ _ m => m.go k⟩
end
end Go.Sy
namespace Go.Proofs.YtglilbadldocoaaGreatDoor
open Go Go.Ev Go.Sy
set_option maxRecDepth 100000
variable {s : St}
structure Lp where
 i : Nat
 t : St
 L : List Nat
 qL : Option Addr
 qT : Option Addr
 qD : Option Addr
 qR : Option Addr
 cL : Nat
 cT : Nat
 cD : Nat
 cR : Nat
theorem flatN {n : Nat} : ∀ {css : List (List Value)}, (∀ x ∈ css, x.length = n) → ∀ {i : Nat} {x : List Value}, css[i]? = some x → (css.flatten.drop (i * n)).take n = x ∧ i * n + n ≤ css.flatten.length
 | [], _, i, x, h => by cases h
 | y :: css, hl, 0, x, h => by
  cases h
  have := hl y List.mem_cons_self
  rw [Nat.zero_mul, List.drop_zero, List.flatten_cons, List.length_append]
  exact ⟨by rw [List.take_append_of_le_length (by omega), List.take_of_length_le (by omega)], by omega⟩
 | y :: css, hl, i + 1, x, h => by
  have hy := hl y List.mem_cons_self
  obtain ⟨h1, h2⟩ := flatN (fun x hx => hl x (List.mem_cons_of_mem _ hx)) (show css[i]? = some x from h)
  rw [List.flatten_cons, List.length_append, Nat.add_mul, Nat.one_mul]
  refine ⟨?_, by omega⟩
  rw [List.drop_append, List.drop_of_length_le (by omega), List.nil_append, hy, Nat.add_sub_cancel]
  exact h1
theorem kidN {n : Nat} {s : St} {q : Option Addr} {css : List (List Value)} (h : At s q css.flatten) (hl : ∀ x ∈ css, x.length = n) (hn : 0 < n) {i : Nat} {x : List Value} (hx : css[i]? = some x) : good q ∧ ldn s (qadd q (i * n)) n = some x := by
 obtain ⟨h1, h2⟩ := flatN hl hx
 exact ⟨h.good (i := i * n) (by omega), by rw [h.ldn h2 hn, h1]⟩
theorem off_bound {X : Nat → Rc} : ∀ {i : Nat}, (∀ j, j < i → (frm (X j)).length ≤ 16391) → off X i ≤ i * 16391
 | 0, _ => Nat.le_refl _
 | i + 1, h => by
  have := off_bound (i := i) fun j hj => h j (by omega)
  have := h i (by omega)
  show off X i + _ ≤ (i + 1) * 16391
  omega
theorem RcH.flen {S : List Nat} {cb : Nat} {K : List Nat → List (List Nat)} {x : Rc} (h : RcH S cb K x) : (frm x).length ≤ 16391 := by
 have hC : x.C.length = 32 := by rw [h.cd]; exact ctN_length.trans hmc_length
 have := h.len
 unfold frm fw
 rw [List.length_append, List.length_append, hC]
 show 7 + _ ≤ _
 omega
theorem off_same {X Y : Nat → Rc} : ∀ {i : Nat}, (∀ j, j < i → Y j = X j) → off Y i = off X i
 | 0, _ => rfl
 | i + 1, h => by
  show off Y i + _ = off X i + _
  rw [off_same (i := i) fun j hj => h j (by omega), h i (by omega)]
theorem agc_len {a : Ag} (h : a.P.length = 32) (h' : a.R.length = 32) : (agc a).length = 68 := rc_len h h'
def plan33 : List (Nat × Kd × Nat) := [(0, .none, 0), (1, .none, 0), (2, .none, 3), (3, .none, 7), (4, .reads, 15), (5, .none, 0), (6, .none, 0), (7, .none, 96), (8, .reads, 224), (9, .acts, 511), (10, .none, 1023), (11, .none, 2047), (12, .none, 4095), (13, .none, 4095), (14, .none, 16383), (15, .none, 32767), (16, .reads, 65535), (17, .none, 4095), (18, .none, 4095), (19, .none, 397311), (20, .reads, 921599), (21, .none, 2097151), (22, .none, 4194303), (23, .none, 8388607), (24, .none, 16777215), (25, .none, 16777215), (26, .none, 67108863), (27, .none, 134217727), (28, .reads, 268435455), (29, .none, 16777215), (30, .none, 1073741823), (31, .none, 2147483647), (32, .none, 4294967295), (33, .none, 8589934591), (34, .none, 8589934591), (35, .none, 34359738367), (36, .none, 68719476735), (37, .reads, 137438953471), (38, .none, 8589934591), (39, .none, 8589934591), (40, .none, 833223655423), (41, .reads, 1932735283199), (42, .none, 4398046511103), (43, .none, 8796093022207)]
set_option maxHeartbeats 4000000 in
theorem law_ok {q0 : Option Addr} {c0 : Nat} {cut : Int} {ags : List Ag} (w0 : Wf s) (hT : TabAt s) (_ : In64 cut) (hq : At s q0 (ags.map agc).flatten) (_ : ags.length < 2 ^ 47) (ha : ∀ a ∈ ags, AgOk s a) :
  Cl B (.call 3 [.slice q0 ags.length c0, I cut]) s fun v _ => v = .bool true := by
 have hTn : ∀ {t : St}, Kp (fun c => s.nx ≤ c) s t → TabAt t := fun k => hT.kpN w0 k
 refine Cl.enter Tryz.f3 fn3 rfl rfl rfl ?_
 refine run1 ?_
 refine Wo.call rfl (Xc.call ok4 rfl) rfl ((books_ok (z := 256) w0 (by unfold In64; decide)).mono ?_)
 rintro v s2 ⟨cb, b, r1, r2, r3, a', u, rfl, K⟩
 have w2 : Wf s2 := K.kn.wf w0
 have k02 : Kn s s2 := K.kn
 have hord := K.ord
 have hcb := K.bits.2
 have hbn := (K.book.lt w2).1
 refine run1 ?_
 refine Wo.val rfl (Xv.pEq rfl rfl rfl) rfl (run1 ?_)
 refine Wo.call rfl (Xc.call ok5 rfl) rfl ((fixed_ok (hTn (k02.w))).mono ?_)
 rintro v s' ⟨rfl, e'⟩
 rw [e']; clear e' s'
 refine run1 ?_
 refine W.out (α := Lp) (fun a => [(1, I cut), (5, .pointer (some ⟨b, 0, none⟩)), (7, .slice a.qL a.L.length a.cL), (8, .slice a.qT a.i a.cT), (9, .slice a.qD a.i a.cD), (10, .slice a.qR a.i a.cR)]) (fun a => a.t) (fun a => a.i ≤ ags.length ∧ a.i ≤ 30 ∧ ∃ X E yL yT yD yR n2 K C, Wl s cb b r1 r2 r3 a.i a.t X E a.L a.qL a.qT a.qD a.qR a.cL a.cT a.cD a.cR yL yT yD yR n2 K C) ?_ ?_
 ·refine W.loop (α := Lp) (fun a => [(0, .slice q0 ags.length c0), (1, I cut), (5, .pointer (some ⟨b, 0, none⟩)), (7, .slice a.qL a.L.length a.cL), (8, .slice a.qT a.i a.cT), (9, .slice a.qD a.i a.cD), (10, .slice a.qR a.i a.cR), (11, nI a.i)]) (fun _ => []) (fun a => a.t)
   (fun a => a.i ≤ ags.length ∧ a.i ≤ 30 ∧ ∃ X E yL yT yD yR n2 K C, Wl s cb b r1 r2 r3 a.i a.t X E a.L a.qL a.qT a.qD a.qR a.cL a.cT a.cD a.cR yL yT yD yR n2 K C) (fun a => 30 - a.i) ⟨0, s2, [], none, none, none, none, 0, 0, 0, 0⟩
   ⟨Nat.zero_le _, Nat.zero_le _, fun _ => ⟨0, 0, 0, [], [], [], [], []⟩, fun _ => (none, 0), 0, 0, 0, 0, 0, fun _ => [], fun _ => False, ?_⟩ (.cons rfl (.cons rfl (.cons rfl (.cons rfl (.cons rfl (.cons rfl (.cons rfl (.cons rfl .nil)))))))) rfl rfl (by show 30 - 0 < _; decide) ?_
  ·have hz : Cok s s2 b r2 r3 (fun _ => False) 0 0 := ⟨w2.one, id, by have := w0.one; omega, by have := w0.one; omega, by have := w0.one; omega, fun h => absurd h (Nat.lt_irrefl _)⟩
   exact ⟨k02.w, K.book, Nt.nil K.map, K.map3, ⟨id, id, id⟩, fun _ h => absurd h id, Nat.le_refl _, .nil, .nil, .nil, .nil, hz, hz, hz, hz, fun h => absurd h (Nat.lt_irrefl _), .inr ⟨rfl, rfl, rfl, rfl, rfl, rfl⟩, fun j hj => absurd hj (Nat.not_lt_zero _), fun j hj => absurd hj (Nat.not_lt_zero _), ⟨rfl, fun j hj => absurd hj (Nat.not_lt_zero _)⟩⟩
  rintro ⟨i, t, L, qL, qT, qD, qR, cL, cT, cD, cR⟩ ⟨i1, i2, X, E, yL, yT, yD, yR, n2, KK, C, I⟩
  simp only at i1 i2 I
  dsimp only
  have wt : Wf t := I.kp.wf w0
  have et := I.kp.le
  by_cases hgo : i < ags.length ∧ i < 30
  ·have hi : i < ags.length := hgo.1
   have h30 : i < 30 := hgo.2
   obtain ⟨x, hx⟩ : ∃ x, ags[i]? = some x := ⟨ags[i], List.getElem?_eq_getElem hi⟩
   have A := ha x (List.mem_of_getElem? hx)
   have hat : At t q0 (ags.map agc).flatten := At.kpN hq w0 I.kp
   obtain ⟨gq0, lq0⟩ := kidN hat (fun y hy => by obtain ⟨a, h1, rfl⟩ := List.mem_map.1 hy; exact agc_len (ha a h1).hP (ha a h1).hR) (by decide) (show (ags.map agc)[i]? = some (agc x) by rw [List.getElem?_map, hx]; rfl)
   unfold agc at lq0
   refine run1 ?_
   refine Wo.call rfl (Xc.call ok6 rfl) rfl ((made_ex (nn := i + 2) wt (by omega) A.hP A.hR w0 I.kp A.rc A.sl).mono ?_)
   rintro v t1 ⟨Qm, ys, Cm, γm, rfl, slm, hγm, hyo, hmay, g1⟩
   have wt1 := g1.wf wt
   have hy32 : ys.length ≤ 32 := by rcases hmay.1 with ⟨_, _, h⟩ | ⟨_, _, h⟩ <;> omega
   obtain ⟨sq, hsq⟩ : ∃ n : Nat, n = 1 + (i + 2) / 2 := ⟨_, rfl⟩
   rw [← hsq] at hmay ⊢
   have k01 : Kp (fun c => s.nx ≤ c) s t1 := I.kp.trans (g1.w)
   have rcm : RcOk t1 Qm ys := ⟨slm.at, fun y hy => ⟨BsV.kpQ (hyo y hy).hk w0 k01, BsV.kpQ (hyo y hy).hv w0 k01, (hyo y hy).bk, (hyo y hy).bv⟩, by omega⟩
   have hyb : ∀ x ∈ ys, (∀ y ∈ x.k, y < 256) ∧ ∀ y ∈ x.v, y < 256 := fun x hx => ⟨(hyo x hx).bk, (hyo x hx).bv⟩
   obtain ⟨cs, hcsE⟩ : ∃ cs, cs = rcV 2 ((i + 2 : Nat) : Int) (sq : Int) x.P x.R (.slice Qm ys.length Cm) := ⟨_, rfl⟩
   have hcs : cs.length = 68 := by rw [hcsE]; exact rc_len A.hP A.hR
   have hone : ∀ v ∈ cs, one v = true := by rw [hcsE]; exact rc_one
   rw [← hcsE]
   refine run1 ?_
   refine mkO (cs := rc0) fun t2 p2 m2 g2 => ?_
   have wt2 := g2.wf wt1
   refine Wo.st rfl rfl rfl rfl rfl rfl hcs hone p2 (by decide) fun t3 p3 m3 g3 => ?_
   rw [lov_all (by rw [hcs]; rfl)] at p3
   have wt3 := g3.wf wt2
   have g13 : Kn t1 t3 := g2.app g3 (Nat.le_refl _)
   obtain ⟨b12, hb12⟩ : ∃ b, b = t1.nx := ⟨_, rfl⟩
   rw [← hb12] at p3 ⊢
   have l12 := p3.all (n := 68) hcs (by decide)
   refine run1 ?_
   rw [hcsE]
   refine Wo.call rfl (Xc.call ok8 rfl) rfl ((copyR_ok wt3 A.hP A.hR (rcm.kn wt1 g13) (fun x hx => ⟨by have := (hmay.2.2.2.2 x hx).1; omega, by have := (hmay.2.2.2.2 x hx).2.1; omega⟩) (by omega)).mono ?_)
   rintro v t4 ⟨bl', bm, zs, rfl, cp, g4⟩
   have wt4 := g4.wf wt3
   have hzl : zs.length = ys.length := cp.len
   have hmz : mayR (2 : Nat) (i + 2 : Nat) sq zs := mayR_cv cp.same hmay
   have hzb : ∀ x ∈ zs, (∀ y ∈ x.k, y < 256) ∧ ∀ y ∈ x.v, y < 256 := fun z hz => by
    have : cv z ∈ ys.map cv := cp.same ▸ List.mem_map_of_mem hz
    obtain ⟨y, hy, e⟩ := List.mem_map.1 this
    have e1 : y.k = z.k := congrArg Prod.fst e
    have e2 : y.v = z.v := congrArg (fun p => p.2.1) e
    rw [← e1, ← e2]; exact hyb y hy
   have rcz := cp.rc hyb (by omega)
   obtain ⟨Ab, hAb⟩ : ∃ A, A = bdy 2 (i + 2) sq x.P x.R zs := ⟨_, rfl⟩
   obtain ⟨H, hH⟩ : ∃ H, H = cutOf (hmc S0 Ab) cb := ⟨_, rfl⟩
   have g14 : Kn t t4 := g1.call (g13.call g4)
   have k4 : Kp (fun c => s.nx ≤ c) s t4 := I.kp.trans (g14.w)
   rw [← hzl]
   refine run1 ?_
   have hsb : s.nx ≤ b := by omega
   have b4' := I.bk.kp wt g14 id
   refine Wo.call rfl (Xc.call ok7 rfl) rfl ((wr_ok (m := i) (k := 2) (cn := i + 2) (q := sq) wt4 A.hP A.hR rcz hmz A.bP A.bR hzb hAb b4' (I.nt.kp wt g14 id (fun _ _ h => h)) (by omega) I.nb.1 I.nb.2.1 (by omega) rfl S0_b hcb hH (by have := I.le; omega) (fun s' k => hTn (k4.trans (k.mono fun c h => by omega)))).mono ?_)
   rintro v t5 ⟨bo, rfl, hbo, pw, ⟨n2', C', hn2', bk5, nt5, hC'⟩, g5⟩
   have wt5 := g5.wf wt4
   have hHl : H.length = 32 := by rw [hH]; exact cutH
   have h00 : ¬ (0 : Nat) ≠ 0 := fun h => h rfl
   refine run1 ?_
   refine mkO (cs := (List.replicate 32 0).map nB) fun t6 p6 m6 g6 => ?_
   have wt6 := g6.wf wt5
   refine run1 ?_
   refine Wo.st rfl rfl rfl rfl rfl rfl (by rw [List.length_map, hHl]) one_nB p6 (by decide) fun t7 p7 m7 g7 => ?_
   rw [lov_all (by rw [List.length_map, hHl]; rfl)] at p7
   have wt7 := g7.wf wt6
   have g57 : Kn t5 t7 := g6.app g7 (Nat.le_refl _)
   obtain ⟨b14, hb14⟩ : ∃ b, b = t5.nx := ⟨_, rfl⟩
   rw [← hb14] at p7 ⊢
   have k7 : Kp (fun c => c = b ∨ c = r2 ∨ C c) t t7 := ((g14.w).trans g5).trans (g57.w)
   have nok : ∀ {g : Nat}, Cok s t b r2 r3 C i g → ¬ (g = b ∨ g = r2 ∨ C g) := fun o h => h.elim o.nb fun h => h.elim o.n2 o.nC
   have pw7 := pw.kp wt5 g57 id
   have e14 := g14.le
   have e5 := g5.le
   have e57 := g57.le
   have hFl : 0 < (fw (Ab ++ H)).length := by unfold fw; rw [List.length_append]; show 0 < 7 + _; omega
   have hAl : Ab.length ≤ 12000 := by rw [hAb]; exact (bdy_ok A.hP A.hR hmz A.bP A.bR hzb).1
   have hFl2 : (fw (Ab ++ H)).length = 7 + (Ab.length + 32) := by unfold fw; rw [List.length_append, List.length_append, hHl]; rfl
   have hLl : L.length ≤ 491730 := by rw [I.lg.len]; have := off_bound (X := X) (i := i) fun j hj => (I.hX j hj).flen; omega
   refine run1 ?_
   refine Wo.apz rfl rfl rfl rfl rfl rfl rfl rfl rfl wt7 (I.hL.kp wt k7 (nok I.oL)) (by rcases I.ze with h | h; exact .inl h.2; exact .inr h.2.2.1) rfl (cells_at (k := (fw (Ab ++ H)).length) (size := 1) pw7.ats (by rw [List.length_map, Nat.mul_one]) (by decide)) (by rw [List.length_map, Nat.mul_one]) one_nB rfl (by omega) (by omega) hFl fun qL' cL' yL' t8 hL8 g8 hyL hyLt hqL => ?_
   have wt8 := g8.wf wt7
   have e8 := g8.le
   have hyLo : 0 < L.length → yL < t.nx := fun _ => I.oL.lt
   have p78 := p7.kp wt7 g8 (fun h => by have := h.2; have := I.oL.lt; omega)
   have l14 := p78.all (n := 32) (by rw [List.length_map, hHl]) (by decide)
   refine run1 ?_
   refine Wo.val rfl (Xv.bsl (cs := H.map nB) rfl rfl rfl (fillN_o (fill_cons (vs := H.map nB) rfl rfl rfl (by rw [List.length_map, hHl]) one_nB (by decide) (congrArg some (lov_all (by rw [List.length_map, hHl]; rfl)))))) rfl ?_
   refine mkO (cs := H.map nB) fun t9 p9 m9 g9 => ?_
   have wt9 := g9.wf wt8
   have e9 := g9.le
   have k8 : ∀ {g : Nat}, Cok s t b r2 r3 C i g → (0 < i → g ≠ yL) → ¬ (0 < L.length ∧ g = yL) := fun o h e => by
    rcases I.ze with ⟨h1, _⟩ | ⟨_, h1, _⟩
    ·exact h h1 e.2
    ·rw [h1] at e; exact absurd e.1 (Nat.lt_irrefl _)
   refine Wo.apz rfl rfl rfl rfl rfl rfl rfl rfl rfl wt9 (((I.hT.kp wt k7 (nok I.oT)).kp wt7 g8 (k8 I.oT fun h => (I.ne h).1.symm)).kp wt8 g9 id) (by rcases I.ze with h | h; exact .inl h.1; exact .inr h.2.2.2.1) rfl (cells_at (k := 1) (size := 32) p9.ats (by rw [List.length_map, hHl]) (by decide)) (by rw [List.length_map, hHl]) one_nB rfl (by omega) (by omega) (by decide) fun qT' cT' yT' t10 hT10 g10 hyT hyTt hqT => ?_
   have wt10 := g10.wf wt9
   have e10 := g10.le
   refine run1 ?_
   refine mk_gen (cs := [nI (L.length + (fw (Ab ++ H)).length)]) (M := fun s' => Wo _ _ _ _ _ s' _) fun t11 p11 m11 g11 => ?_
   have wt11 := g11.wf wt10
   have e11 := g11.le
   have nT : ∀ {g : Nat}, (0 < i → g ≠ yT) → ¬ (0 < i ∧ g = yT) := fun h e => h e.1 e.2
   refine Wo.apz rfl rfl rfl rfl rfl rfl rfl rfl rfl wt11 ((((((I.hD.kp wt k7 (nok I.oD)).kp wt7 g8 (k8 I.oD fun h => (I.ne h).2.1.symm)).kp wt8 g9 id).kp wt9 g10 (nT fun h => (I.ne h).2.2.2.1.symm)).kp wt10 g11 id)) (by rcases I.ze with h | h; exact .inl h.1; exact .inr h.2.2.2.2.1) rfl (cells_at (k := 1) (size := 1) p11.ats rfl (by decide)) rfl (one1 rfl) rfl (by omega) (by omega) (by decide) fun qD' cD' yD' t12 hD12 g12 hyD hyDt hqD => ?_
   have wt12 := g12.wf wt11
   have e12 := g12.le
   have nD : ∀ {g : Nat}, (0 < i → g ≠ yD) → ¬ (0 < i ∧ g = yD) := fun h e => h e.1 e.2
   have e13 := g13.le
   have e1' := g1.le
   have e4' := g4.le
   have g3t7 : Kp (fun c => c = b ∨ c = r2 ∨ C c) t3 t7 := ((g4.w).trans g5).trans (g57.w)
   have lC : ∀ {c : Nat}, C c → c < t.nx := fun h => I.nt.old _ h
   have hbt := (I.bk.lt wt).1
   have hr2t := I.nt.lt wt
   have p12 := ((((((p3.kp wt3 g3t7 (fun h => by rcases h with h | h | h <;> first | omega | (have := lC h; omega))).kp wt7 g8 (fun h => by have := h.2; have := I.oL.lt; omega)).kp wt8 g9 id).kp wt9 g10 (fun h => by have := h.2; have := I.oT.lt; omega)).kp wt10 g11 id).kp wt11 g12 (fun h => by have := h.2; have := I.oD.lt; omega))
   have l12' := p12.all (n := 68) hcs (by decide)
   refine run1 ?_
   refine Wo.val rfl (Xv.bsl (cs := cs) rfl rfl rfl (fillN_o (fill_cons (vs := cs) rfl rfl rfl hcs hone (by decide) (congrArg some (lov_all (by rw [hcs]; rfl)))))) rfl ?_
   refine mkO (cs := cs) fun t13 p13 m13 g13' => ?_
   have wt13 := g13'.wf wt12
   have e13' := g13'.le
   refine Wo.apz rfl rfl rfl rfl rfl rfl rfl rfl rfl wt13 ((((((((I.hR.kp wt k7 (nok I.oR)).kp wt7 g8 (k8 I.oR fun h => (I.ne h).2.2.1.symm)).kp wt8 g9 id).kp wt9 g10 (nT fun h => (I.ne h).2.2.2.2.1.symm)).kp wt10 g11 id).kp wt11 g12 (nD fun h => (I.ne h).2.2.2.2.2.symm)).kp wt12 g13' id)) (by rcases I.ze with h | h; exact .inl h.1; exact .inr h.2.2.2.2.2) rfl (cells_at (k := 1) (size := 68) p13.ats hcs (by decide)) hcs hone rfl (by omega) (by omega) (by decide) fun qR' cR' yR' t14 hR14 g14' hyR hyRt hqR => ?_
   have wt14 := g14'.wf wt13
   have e14' := g14'.le
   refine run1 ?_
   obtain ⟨Y, hY⟩ : ∃ Y : Nat → Rc, Y = fun j => if j = i then ⟨2, i + 2, sq, x.P, x.R, ys, Ab, H⟩ else X j := ⟨_, rfl⟩
   obtain ⟨E', hE⟩ : ∃ E' : Nat → Option Addr × Nat, E' = fun j => if j = i then (Qm, Cm) else E j := ⟨_, rfl⟩
   have Yi : Y i = ⟨2, i + 2, sq, x.P, x.R, ys, Ab, H⟩ := by rw [hY]; exact if_pos rfl
   have Yj : ∀ j, j < i → Y j = X j := fun j hj => by rw [hY]; exact if_neg (by omega)
   have Ei : E' i = (Qm, Cm) := by rw [hE]; exact if_pos rfl
   have Ej : ∀ j, j < i → E' j = E j := fun j hj => by rw [hE]; exact if_neg (by omega)
   have oY : ∀ j, j ≤ i → off Y j = off X j := fun j hj => off_same fun k hk => Yj k (by omega)
   have fY : frm (Y i) = fw (Ab ++ H) := by rw [Yi]; rfl
   have oS : off Y (i + 1) = L.length + (fw (Ab ++ H)).length := by show off Y i + _ = _; rw [oY i (Nat.le_refl _), fY, I.lg.len]
   have zi : (0 < i ∧ 0 < L.length) ∨ (i = 0 ∧ L.length = 0) := I.ze.imp id fun h => ⟨h.1, by rw [h.2.1]; rfl⟩
   have zL : (yL' = yL ∧ 0 < i) ∨ t7.nx ≤ yL' := by rcases hyL with ⟨h1, h2⟩ | h <;> omega
   have zT : (yT' = yT ∧ 0 < i) ∨ t9.nx ≤ yT' := by rcases hyT with ⟨h1, h2⟩ | h <;> omega
   have zD : (yD' = yD ∧ 0 < i) ∨ t11.nx ≤ yD' := by rcases hyD with ⟨h1, h2⟩ | h <;> omega
   have zR : (yR' = yR ∧ 0 < i) ∨ t13.nx ≤ yR' := by rcases hyR with ⟨h1, h2⟩ | h <;> omega
   have lL := I.oL.lt
   have lT := I.oT.lt
   have lD := I.oD.lt
   have lR := I.oR.lt
   have hr3t := I.m3.lt wt
   have nC' : ∀ {c : Nat}, c < t4.nx → ¬ C c → ¬ C' c := fun h1 h2 h3 => (hC' _ h3).elim h2 (by omega)
   have nC'' : ∀ {c : Nat}, t5.nx ≤ c → ¬ C' c := fun h1 h3 => by have := nt5.old _ h3; omega
   have kA : Kp (fun c => (0 < i ∧ (c = yL ∨ c = yT ∨ c = yD ∨ c = yR)) ∨ t5.nx ≤ c) t5 t14 := by
    refine ((((((g57.w).trans (g8.mono fun c h => .inl ⟨by omega, .inl h.2⟩)).trans (g9.w)).trans (g10.mono fun c h => .inl ⟨h.1, .inr (.inl h.2)⟩)).trans (g11.w)).trans (g12.mono fun c h => .inl ⟨h.1, .inr (.inr (.inl h.2))⟩)).trans ((g13'.w).trans (g14'.mono fun c h => .inl ⟨h.1, .inr (.inr (.inr h.2))⟩))
   have kB : Kp (fun c => chg b r2 C i yL yT yD yR t.nx c) t t14 := ((g14.w).trans (g5.mono fun c h => h.imp id fun h => h.imp id fun h => .inl h)).trans (kA.mono fun c h => h.elim (fun h => .inr (.inr (.inr (.inl h)))) (fun h => .inr (.inr (.inr (.inr (by omega))))))
   have hbt := (I.bk.lt wt).1
   have cok : ∀ {g g' : Nat}, Cok s t b r2 r3 C i g → ((g' = g ∧ 0 < i) ∨ t7.nx ≤ g') → g' < t14.nx → Cok s t14 b r2 r3 C' (i + 1) g' := fun {g g'} o h h' => by
    have := o.lt
    rcases h with ⟨rfl, h0⟩ | h
    ·exact ⟨h', nC' (by omega) o.nC, o.nb, o.n2, o.n3, fun _ => o.ge h0⟩
    ·exact ⟨h', nC'' (by omega), by omega, by omega, by omega, fun _ => by omega⟩
   have WW : Wl s cb b r1 r2 r3 (i + 1) t14 Y E' (L ++ fw (Ab ++ H)) qL' qT' qD' qR' cL' cT' cD' cR' yL' yT' yD' yR' n2' (kadd KK H Ab) C' := by
    refine ⟨?kp, ?bk, ?nt, ?m3, ?nb, ?cg, by have := I.le; omega, ?hL, ?hT, ?hD, ?hR, cok I.oL (by omega) (by omega), cok I.oT (by omega) (by omega), cok I.oD (by omega) (by omega), cok I.oR (by omega) (by omega), fun _ => ?ne, .inl ⟨Nat.succ_pos _, by rw [List.length_append]; omega⟩, ?it, ?hX, ?lg⟩
    case kp =>
     refine I.kp.trans (kB.mono fun c h => ?_)
     rcases h with h | h | h | ⟨h0, h | h | h | h⟩ | h
     ·omega
     ·omega
     ·exact I.cg c h
     ·rw [h]; exact I.oL.ge h0
     ·rw [h]; exact I.oT.ge h0
     ·rw [h]; exact I.oD.ge h0
     ·rw [h]; exact I.oR.ge h0
     ·exact Nat.le_trans et h
    case bk =>
     refine bk5.kp wt5 kA fun h => ?_
     rcases h with ⟨h0, h | h | h | h⟩ | h
     ·exact I.oL.nb h.symm
     ·exact I.oT.nb h.symm
     ·exact I.oD.nb h.symm
     ·exact I.oR.nb h.symm
     ·omega
    case nt =>
     refine nt5.kp wt5 kA (fun h => ?_) fun c hc h => ?_
     ·rcases h with ⟨h0, h | h | h | h⟩ | h
      ·exact I.oL.n2 h.symm
      ·exact I.oT.n2 h.symm
      ·exact I.oD.n2 h.symm
      ·exact I.oR.n2 h.symm
      ·omega
     ·rcases h with ⟨h0, h | h | h | h⟩ | h
      ·exact nC' (by omega) I.oL.nC (h ▸ hc)
      ·exact nC' (by omega) I.oT.nC (h ▸ hc)
      ·exact nC' (by omega) I.oD.nC (h ▸ hc)
      ·exact nC' (by omega) I.oR.nC (h ▸ hc)
      ·exact nC'' h hc
    case m3 =>
     refine Mp.kp I.m3 wt kB fun h => ?_
     rcases h with h | h | h | ⟨h0, h | h | h | h⟩ | h
     ·omega
     ·omega
     ·exact I.nb.2.2 h
     ·exact I.oL.n3 h.symm
     ·exact I.oT.n3 h.symm
     ·exact I.oD.n3 h.symm
     ·exact I.oR.n3 h.symm
     ·omega
    case nb => exact ⟨nC' (by omega) I.nb.1, nC' (by omega) I.nb.2.1, nC' (by omega) I.nb.2.2⟩
    case cg => exact fun c h => (hC' c h).elim (I.cg c) (fun h => by omega)
    case ne =>
     rcases zi with ⟨h0, _⟩ | ⟨h0, _⟩
     ·obtain ⟨n1, n2, n3, n4, n5, n6⟩ := I.ne h0
      refine ⟨?_, ?_, ?_, ?_, ?_, ?_⟩ <;> omega
     ·refine ⟨?_, ?_, ?_, ?_, ?_, ?_⟩ <;> omega
    case hL =>
     rw [List.length_append, List.map_append]
     have n4 := I.ne
     refine (((((hL8.kp wt8 g9 id).kp wt9 g10 fun h => ?_).kp wt10 g11 id).kp wt11 g12 fun h => ?_).kp wt12 g13' id).kp wt13 g14' fun h => ?_
     ·have := (n4 h.1).1; omega
     ·have := (n4 h.1).2.1; omega
     ·have := (n4 h.1).2.2.1; omega
    case hT =>
     have hm : ((List.range i).map fun j => (Y j).C.map nB) = (List.range i).map fun j => (X j).C.map nB := List.map_congr_left fun j hj => by rw [Yj j (List.mem_range.1 hj)]
     rw [List.range_succ, List.map_append, hm, List.flatten_append, show (([i].map fun j => (Y j).C.map nB).flatten) = H.map nB by rw [List.map_singleton, Yi]; simp]
     have n4 := I.ne
     refine (((hT10.kp wt10 g11 id).kp wt11 g12 fun h => ?_).kp wt12 g13' id).kp wt13 g14' fun h => ?_
     ·have := (n4 h.1).2.2.2.1; omega
     ·have := (n4 h.1).2.2.2.2.1; omega
    case hD =>
     have hm : ((List.range i).map fun j => nI (off Y (j + 1))) = (List.range i).map fun j => nI (off X (j + 1)) := List.map_congr_left fun j hj => by rw [oY (j + 1) (by have := List.mem_range.1 hj; omega)]
     rw [List.range_succ, List.map_append, hm, List.map_singleton, oS]
     have n4 := I.ne
     refine (hD12.kp wt12 g13' id).kp wt13 g14' fun h => ?_
     have := (n4 h.1).2.2.2.2.2; omega
    case hR =>
     have hm : ((List.range i).map fun j => mdc Y j (E' j)) = (List.range i).map fun j => mdc X j (E j) := List.map_congr_left fun j hj => by
      have hj := List.mem_range.1 hj
      unfold mdc
      rw [Yj j hj, Ej j hj]
     rw [List.range_succ, List.map_append, hm, List.flatten_append, show (([i].map fun j => mdc Y j (E' j)).flatten) = cs by rw [List.map_singleton]; unfold mdc; rw [Yi, Ei, hcsE]; simp]
     exact hR14
    case hX =>
     intro j hj
     by_cases hji : j = i
     ·rw [hji, Yi]
      exact ⟨by rw [hAb]; exact bdy_cv cp.same, A.hP, A.hR, A.bP, A.bR, hmay, hH, kadd_mem.2 (.inl ⟨rfl, rfl⟩), (by show Ab.length + 32 ≤ 16384; omega), List.length_pos_iff.2 (by show Ab ≠ []; rw [hAb]; exact bdy_ne), (by show ∀ y ∈ Ab, y < 256; rw [hAb]; exact (bdy_ok A.hP A.hR hmz A.bP A.bR hzb).2)⟩
     ·have hj' : j < i := by omega
      rw [Yj j hj']
      have h := I.hX j hj'
      exact ⟨h.bd, h.hP, h.hR, h.bP, h.bR, h.may, h.cd, kadd_mem.2 (.inr h.inn), h.len, h.pos, h.bD⟩
    case lg =>
     refine ⟨by rw [List.length_append, oS], fun j hj => ?_⟩
     by_cases hji : j = i
     ·refine ⟨[], ?_⟩
      rw [hji, oY i (Nat.le_refl _), ← I.lg.len, List.drop_left, fY, List.append_nil]
     ·have hj' : j < i := by omega
      obtain ⟨R, hR⟩ := I.lg.at' j hj'
      refine ⟨R ++ fw (Ab ++ H), ?_⟩
      rw [oY j (by omega), Yj j hj', List.drop_append_of_le_length (by rw [I.lg.len]; exact off_le (by omega)), hR, List.append_assoc]
    case it =>
     intro j hj u ku
     have kS : Kp (fun c => s.nx ≤ c) s u := (I.kp.trans (kB.mono fun c h => by
      rcases h with h | h | h | ⟨h0, h | h | h | h⟩ | h
      ·omega
      ·omega
      ·exact I.cg c h
      ·rw [h]; exact I.oL.ge h0
      ·rw [h]; exact I.oT.ge h0
      ·rw [h]; exact I.oD.ge h0
      ·rw [h]; exact I.oR.ge h0
      ·exact Nat.le_trans et h)).trans (ku.mono fun c h => by
      rcases h with h | h | h | ⟨h0, h | h | h | h⟩ | h
      ·omega
      ·omega
      ·exact (hC' c h).elim (I.cg c) (fun h => by omega)
      ·rw [h]; rcases zL with ⟨h1, h2⟩ | h1; (· rw [h1]; exact I.oL.ge h2); omega
      ·rw [h]; rcases zT with ⟨h1, h2⟩ | h1; (· rw [h1]; exact I.oT.ge h2); omega
      ·rw [h]; rcases zD with ⟨h1, h2⟩ | h1; (· rw [h1]; exact I.oD.ge h2); omega
      ·rw [h]; rcases zR with ⟨h1, h2⟩ | h1; (· rw [h1]; exact I.oR.ge h2); omega
      ·omega)
     have cU : ∀ c, chg b r2 C' (i + 1) yL' yT' yD' yR' t14.nx c → chg b r2 C i yL yT yD yR t1.nx c := fun c h => by
      rcases h with h | h | h | ⟨h0, h | h | h | h⟩ | h
      ·exact .inl h
      ·exact .inr (.inl h)
      ·exact (hC' c h).elim (fun h => .inr (.inr (.inl h))) (fun h => .inr (.inr (.inr (.inr (by omega)))))
      ·rcases zL with ⟨h1, h2⟩ | h1
       ·exact .inr (.inr (.inr (.inl ⟨h2, .inl (h.trans h1)⟩)))
       ·exact .inr (.inr (.inr (.inr (by omega))))
      ·rcases zT with ⟨h1, h2⟩ | h1
       ·exact .inr (.inr (.inr (.inl ⟨h2, .inr (.inl (h.trans h1))⟩)))
       ·exact .inr (.inr (.inr (.inr (by omega))))
      ·rcases zD with ⟨h1, h2⟩ | h1
       ·exact .inr (.inr (.inr (.inl ⟨h2, .inr (.inr (.inl (h.trans h1)))⟩)))
       ·exact .inr (.inr (.inr (.inr (by omega))))
      ·rcases zR with ⟨h1, h2⟩ | h1
       ·exact .inr (.inr (.inr (.inl ⟨h2, .inr (.inr (.inr (h.trans h1)))⟩)))
       ·exact .inr (.inr (.inr (.inr (by omega))))
      ·exact .inr (.inr (.inr (.inr (by omega))))
     by_cases hji : j = i
     ·rw [hji, Yi, Ei]
      refine ⟨?_, fun y hy => ⟨BsV.kpQ (hyo y hy).hk w0 kS, BsV.kpQ (hyo y hy).hv w0 kS, (hyo y hy).bk, (hyo y hy).bv⟩, by show ys.length < 2 ^ 42; omega⟩
      rcases hγm with ⟨h1, h2⟩ | ⟨h1, h2⟩
      ·show At u Qm (ys.map chc).flatten
       rw [h1, h2]
       exact .inl ⟨rfl, .inl rfl⟩
      ·have kC : Kp (chg b r2 C i yL yT yD yR t1.nx) t1 u := ((((g13.call g4).w).trans (g5.mono fun c h => h.imp id fun h => h.imp id fun h => .inl h)).trans (kA.mono fun c h => h.elim (fun h => .inr (.inr (.inr (.inl h)))) (fun h => .inr (.inr (.inr (.inr (by omega))))))).trans (ku.mono cU)
       refine (slm.kp wt1 kC fun h => ?_).at
       rcases h with h | h | h | ⟨h0, h | h | h | h⟩ | h
       ·omega
       ·omega
       ·have := lC h; omega
       ·omega
       ·omega
       ·omega
       ·omega
       ·omega
     ·have hj' : j < i := by omega
      rw [Yj j hj', Ej j hj']
      exact I.it j hj' u (kB.trans (ku.mono fun c h => (cU c h).imp id fun h => h.imp id fun h => h.imp id fun h => h.imp id fun h => by omega))
   exact rnd.n ⟨i + 1, t14, L ++ fw (Ab ++ H), qL', qT', qD', qR', cL', cT', cD', cR'⟩ ⟨hi, h30, Y, E', yL', yT', yD', yR', n2', kadd KK H Ab, C', WW⟩ (by show 30 - (i + 1) < 30 - i; omega) (.cons rfl (.cons rfl (.cons rfl (.cons (by rw [List.length_append]; rfl) (.cons rfl (.cons rfl (.cons rfl (.cons rfl .nil)))))))) rfl rfl
  ·have hcase : (i < ags.length ∧ ¬ i < 30) ∨ ¬ i < ags.length := by omega
   rcases hcase with ⟨hi, h30⟩ | hi
   all_goals refine run1 ?_
   all_goals exact outx.x (α := Lp) ⟨i, t, L, qL, qT, qD, qR, cL, cT, cD, cR⟩ ⟨i1, i2, X, E, yL, yT, yD, yR, n2, KK, C, I⟩ (.cons rfl (.cons rfl (.cons rfl (.cons rfl (.cons rfl (.cons rfl .nil)))))) rfl
 rintro ⟨i, t, L, qL, qT, qD, qR, cL, cT, cD, cR⟩ ⟨i1, i2, X, E, yL, yT, yD, yR, n2, KK, C, I⟩
 simp only at i1 i2 I
 dsimp only
 have wt : Wf t := I.kp.wf w0
 have et := I.kp.le
 have hlL : L.length ≤ 491730 := by rw [I.lg.len]; have := off_bound (X := X) (i := i) fun j hj => (I.hX j hj).flen; omega
 obtain ⟨z, hz⟩ : ∃ z, z = cut.tmod (Int.ofNat (L.length + 1)) := ⟨_, rfl⟩
 have hzr : -((L.length : Int) + 1) < z ∧ z < (L.length : Int) + 1 := by
  have e : (Int.ofNat (L.length + 1) : Int) = (L.length : Int) + 1 := rfl
  rw [e] at hz
  have h1 := Int.tmod_lt_of_pos cut (show (0 : Int) < (L.length : Int) + 1 by omega)
  have h2 := Int.lt_tmod_of_pos cut (show (0 : Int) < (L.length : Int) + 1 by omega)
  omega
 refine run1 ?_
 refine Wo.val rfl (Xv.remW (n := L.length + 1) (z := z) rfl rfl (Nat.succ_ne_zero _) hz.symm) rfl (run1 ?_)
 refine W.meet (α := Nat) (fun k => [(5, .pointer (some ⟨b, 0, none⟩)), (7, .slice qL L.length cL), (8, .slice qT i cT), (9, .slice qD i cD), (10, .slice qR i cR), (16, nI k)]) (fun _ => t) (fun k => k ≤ L.length) ?_ ?_
 ·by_cases h0 : z < 0
  ·obtain ⟨n, hn⟩ : ∃ n : Nat, -z = (n : Int) := ⟨(-z).toNat, by omega⟩
   refine run1 ?_
   refine Wo.val rfl (Xv.negW (z := Int.ofNat n) rfl (by
    show (if (true && decide (((0 - z) % 18446744073709551616 : Int) ≥ 9223372036854775808)) = true then (0 - z) % 18446744073709551616 - 18446744073709551616 else (0 - z) % 18446744073709551616) = _
    rw [if_neg (by simp; omega)]
    show _ = (n : Int)
    omega)) rfl ?_
   refine run1 ?_
   exact meet.n n (by show n ≤ L.length; omega) (.cons rfl (.cons rfl (.cons rfl (.cons rfl (.cons rfl (.cons rfl .nil)))))) rfl
  ·obtain ⟨n, hn⟩ : ∃ n : Nat, z = (n : Int) := ⟨z.toNat, by omega⟩
   refine run1 ?_
   exact meet.n n (by show n ≤ L.length; omega) (.cons rfl (.cons rfl (.cons rfl (.cons rfl (.cons rfl (.cons (by rw [hn]; rfl) .nil)))))) rfl
 intro k hk
 refine run1 ?_
 have endq : ∀ n, n < i → good qD ∧ ldq t (qadd qD (n * 1)) = some (nI (off X (n + 1))) := fun n hn => by
  rw [Nat.mul_one]
  have hl : n < ((List.range i).map fun j => nI (off X (j + 1))).length := by rw [List.length_map, List.length_range]; exact hn
  refine ⟨I.hD.sl.at.good hl, ?_⟩
  rw [I.hD.sl.at.ld hl, List.getElem_map, List.getElem_range]
 refine W.out (α := Nat) (fun n => [(5, .pointer (some ⟨b, 0, none⟩)), (7, .slice qL L.length cL), (8, .slice qT i cT), (9, .slice qD i cD), (10, .slice qR i cR), (16, nI k), (17, nI n)]) (fun _ => t) (fun n => n ≤ i ∧ off X n ≤ k ∧ (n = i ∨ k < off X (n + 1))) ?_ ?_
 ·refine W.loop (α := Nat) (fun n => [(5, .pointer (some ⟨b, 0, none⟩)), (7, .slice qL L.length cL), (8, .slice qT i cT), (9, .slice qD i cD), (10, .slice qR i cR), (16, nI k), (17, nI n)]) (fun _ => []) (fun _ => t) (fun n => n ≤ i ∧ off X n ≤ k) (fun n => i - n) 0 ⟨Nat.zero_le _, Nat.zero_le _⟩ (.cons rfl (.cons rfl (.cons rfl (.cons rfl (.cons rfl (.cons rfl (.cons rfl .nil))))))) rfl rfl (by show i - 0 < _; omega) ?_
  rintro n ⟨n1, n2⟩
  by_cases hn : n < i
  ·obtain ⟨gD, lD⟩ := endq n hn
   by_cases ho : off X (n + 1) ≤ k
   ·refine run1 ?_
    exact rnd.n (n + 1) ⟨hn, ho⟩ (by show i - (n + 1) < i - n; omega) (.cons rfl (.cons rfl (.cons rfl (.cons rfl (.cons rfl (.cons rfl (.cons rfl .nil))))))) rfl rfl
   ·refine run1 ?_
    exact outx.x (α := Nat) n ⟨n1, n2, .inr (by omega)⟩ (.cons rfl (.cons rfl (.cons rfl (.cons rfl (.cons rfl (.cons rfl (.cons rfl .nil))))))) rfl
  ·refine run1 ?_
   exact outx.x (α := Nat) n ⟨n1, n2, .inl (by omega)⟩ (.cons rfl (.cons rfl (.cons rfl (.cons rfl (.cons rfl (.cons rfl (.cons rfl .nil))))))) rfl
 rintro n ⟨n1, n2, n3⟩
 refine run1 ?_
 obtain ⟨D, hD⟩ : ∃ D, D = L.take k := ⟨_, rfl⟩
 have hDl : D.length = k := by rw [hD, List.length_take]; omega
 have hsb : s.nx ≤ b := by omega
 refine Wo.slHi rfl rfl rfl rfl rfl rfl I.hL hk (by omega) fun _ => ?_
 refine run1 ?_
 have sc := scan_ok (c := cL) (ql := qL) (δ := yL) (γ := b) (mm := i) wt I.lg I.hX hk hD (by omega) i2 (fun h0 => by
  have hL0 : 0 < L.length := by omega
  obtain ⟨bL, h1, _, h3⟩ := I.hL.rw hL0
  refine ⟨bL, h1, ?_, I.oL.nb, h0, ?_⟩
  ·have := (I.hL.sl).take (n := k)
   rw [hD, List.map_take]; exact this
  ·rcases h3 with h3 | h3
   ·rw [h3]; exact ⟨by rw [(cap_least (by omega)).1]; omega, .inr (cap_least (by omega)).2.2⟩
   ·rw [h3]; exact ⟨by rw [cap_sure.1]; omega, .inl cap_sure.2⟩) I.bk I.nt (by omega) I.nb.1 (by omega) rfl S0_b hcb (fun s' k' => hTn (I.kp.trans (k'.mono fun c h => by omega)))
 rw [hDl] at sc
 refine Wo.call rfl (Xc.call ok9 rfl) rfl (sc.mono ?_)
 rintro v s4 ⟨n', q4, c4, γ4, E4, m1, m2, m3, rfl, S4⟩
 have hnn : n' = n := by
  have st : ∀ j, off X j < off X (j + 1) := fun j => by show off X j < off X j + (frm (X j)).length; unfold frm fw; rw [List.length_append]; show _ < _ + (7 + _); omega
  rcases Nat.lt_trichotomy n n' with h | h | h
  ·have := off_le (X := X) (i := n + 1) (j := n') h
   omega
  ·exact h.symm
  ·have := off_le (X := X) (i := n' + 1) (j := n) h
   have := st n'
   omega
 subst hnn
 have w4 : Wf s4 := S4.kp.wf wt
 have h3b : r3 ≠ b := by omega
 have m34 : Mp s4 r3 [] := Mp.kp I.m3 wt S4.kp h3b
 have end4 : 0 < n' → good qD ∧ ldq s4 (qadd qD ((n' - 1) * 1)) = some (nI (off X n')) := fun hm => by
  have hl : n' - 1 < ((List.range i).map fun j => nI (off X (j + 1))).length := by rw [List.length_map, List.length_range]; omega
  have hat : At s4 qD ((List.range i).map fun j => nI (off X (j + 1))) := (I.hD.kp wt S4.kp I.oD.nb).sl.at
  refine ⟨hat.good hl, ?_⟩
  rw [Nat.mul_one, hat.ld hl, List.getElem_map, List.getElem_range, Nat.sub_add_cancel hm]
 refine Wo.meet0 (α := Unit) (fun _ => [(5, .pointer (some ⟨b, 0, none⟩)), (8, .slice qT i cT), (9, .slice qD i cD), (10, .slice qR i cR), (16, nI k), (17, nI n'), (18, .slice q4 n' c4), (19, nI (if off X n' = k then 0 else 91))]) (fun _ => s4) (fun _ => True) (run1 (meet.n () trivial (.cons rfl (.cons rfl (.cons rfl (.cons rfl (.cons rfl (.cons rfl (.cons rfl (.cons rfl .nil)))))))) rfl)) ?_
 rintro ⟨⟩ _
 refine W.seq (W.meet (α := Unit) (fun _ => [(5, .pointer (some ⟨b, 0, none⟩)), (8, .slice qT i cT), (9, .slice qD i cD), (10, .slice qR i cR), (17, nI n'), (18, .slice q4 n' c4), (19, nI (if off X n' = k then 0 else 91)), (20, .bool (decide (off X n' = k)))]) (fun _ => s4) (fun _ => True) ?_ ?_)
 ·by_cases hk0 : off X n' = k
  ·rw [if_pos hk0, decide_eq_true hk0]
   by_cases k0 : k = 0
   ·refine run1 ?_
    exact meet.n () trivial (.cons rfl (.cons rfl (.cons rfl (.cons rfl (.cons rfl (.cons rfl (.cons rfl (.cons rfl .nil)))))))) rfl
   ·have h0 : 0 < n' := by
     rcases Nat.eq_zero_or_pos n' with h | h
     ·rw [h] at hk0; exact absurd hk0.symm k0
     ·exact h
    obtain ⟨gD, lD⟩ := end4 h0
    have h1 : 1 ≤ n' := h0
    refine run1 ?_
    exact meet.n () trivial (.cons rfl (.cons rfl (.cons rfl (.cons rfl (.cons rfl (.cons rfl (.cons rfl (.cons (by show some (Value.bool (decide (off X n' = k))) = _; rw [decide_eq_true hk0]) .nil)))))))) rfl
  ·rw [if_neg hk0, decide_eq_false hk0]
   have k0 : ¬ k = 0 := fun h => hk0 (by omega)
   by_cases h0 : 0 < n'
   ·obtain ⟨gD, lD⟩ := end4 h0
    have h1 : 1 ≤ n' := h0
    refine run1 ?_
    exact meet.n () trivial (.cons rfl (.cons rfl (.cons rfl (.cons rfl (.cons rfl (.cons rfl (.cons rfl (.cons (by show some (Value.bool (decide (off X n' = k))) = _; rw [decide_eq_false hk0]) .nil)))))))) rfl
   ·refine run1 ?_
    exact meet.n () trivial (.cons rfl (.cons rfl (.cons rfl (.cons rfl (.cons rfl (.cons rfl (.cons rfl (.cons rfl .nil)))))))) rfl
 rintro ⟨⟩ _
 refine W.seq (W.meet (α := St) (fun _ => [(8, .slice qT i cT), (9, .slice qD i cD), (10, .slice qR i cR), (17, nI n'), (18, .slice q4 n' c4)]) (fun u => u) (fun u => Kp (fun c => c = b) s4 u) ?_ ?_)
 ·by_cases hk0 : off X n' = k
  ·rw [if_pos hk0, decide_eq_true hk0]
   have hnn : ¬ n' ≠ n' := fun h => h rfl
   have h00 : (0 : Nat) = 0 := rfl
   refine run1 ?_
   refine Wo.val (gT' rfl hnn) (show Xv _ _ _ _ (.bool false) _ from Xv.neB (a := decide ((0 : Nat) = 0)) (b := true) rfl rfl rfl) rfl (run1 ?_)
   have h0n : ¬ (0 : Nat) ≠ 0 := fun h => h rfl
   refine Wo.call rfl (Xc.call ok10 rfl) rfl ((forg0_ok w4 S4.bk rfl m34 h3b).mono ?_)
   rintro v u ⟨rfl, ku⟩
   refine run1 ?_
   exact meet.n u ku (.cons rfl (.cons rfl (.cons rfl (.cons rfl (.cons rfl .nil))))) rfl
  ·rw [if_neg hk0, decide_eq_false hk0]
   have hnn : ¬ n' ≠ n' := fun h => h rfl
   have h91 : ¬ (91 : Nat) = 0 := by decide
   have h91' : ¬ (91 : Nat) ≠ 91 := fun h => h rfl
   refine run1 ?_
   refine Wo.val (gT' rfl hnn) (show Xv _ _ _ _ (.bool false) _ from Xv.neB (a := decide ((91 : Nat) = 0)) (b := false) rfl rfl rfl) rfl (run1 ?_)
   have h0n : ¬ (0 : Nat) ≠ 0 := fun h => h rfl
   refine Wo.call (gT' rfl h91') (Xc.call ok10 rfl) rfl ((forg0_ok w4 S4.bk rfl m34 h3b).mono ?_)
   rintro v u ⟨rfl, ku⟩
   refine run1 ?_
   exact meet.n u ku (.cons rfl (.cons rfl (.cons rfl (.cons rfl (.cons rfl .nil))))) rfl
 intro u ku
 have wu : Wf u := ku.wf w4
 have hXj : ∀ j, j < n' → RcH S0 cb KK (X j) := fun j hj => I.hX j (by omega)
 have cl : ∀ j, j < n' → (X j).C.length = 32 := fun j hj => by rw [(hXj j hj).cd]; exact ctN_length.trans hmc_length
 have F : ∀ {w : St}, Kn u w → ∀ j, j < n' → (good q4 ∧ good (qadd q4 (j * 102)) ∧ ldn w (qadd (qadd q4 (j * 102)) 0) 68 = some (rcV (X j).k (X j).c (X j).q (X j).P (X j).R (.slice (E4 j).1 (E4 j).2.1.length (E4 j).2.2)) ∧ ldn w (qadd (qadd q4 (j * 102)) 68) 32 = some ((X j).C.map nB) ∧ ldq w (qadd (qadd q4 (j * 102)) 100) = some (nI (off X j)) ∧ ldq w (qadd (qadd q4 (j * 102)) 101) = some (nI (off X (j + 1)))) ∧ (good qR ∧ ldn w (qadd qR (j * 68)) 68 = some (rcV (X j).k (X j).c (X j).q (X j).P (X j).R (.slice (E j).1 (X j).xs.length (E j).2))) ∧ (good qT ∧ ldn w (qadd qT (j * 32)) 32 = some ((X j).C.map nB)) ∧ (good qD ∧ ldq w (qadd qD (j * 1)) = some (nI (off X (j + 1)))) ∧ RcOk w (E4 j).1 (E4 j).2.1 ∧ RcOk w (E j).1 (X j).xs := fun {w} kw j hj => by
  have k4 : Kp (fun c => c = b) s4 w := ku.trans (kw.w)
  have kt : Kp (fun c => c = b) t w := S4.kp.trans k4
  have hg4 : γ4 ≠ b ∧ t.nx ≤ γ4 := by
   rcases S4.st with ⟨h, _⟩ | ⟨h, _⟩
   ·omega
   ·have := (I.bk.lt wt).1; exact ⟨by omega, h⟩
  have hji : j < i := by omega
  refine ⟨?_, ?_, ?_, ?_, ?_, ?_⟩
  ·have hgw := S4.gw.kp w4 k4 hg4.1
   obtain ⟨b4, e4, _, _⟩ := hgw.rw (by omega)
   have hat := hgw.sl.at
   obtain ⟨f1, f2⟩ := flatN (n := 102) (css := (List.range n').map fun j => entc X j (E4 j)) (fun y hy => by
    obtain ⟨m, hm, rfl⟩ := List.mem_map.1 hy
    have hm := List.mem_range.1 hm
    exact entc_len (hXj m hm).hP (hXj m hm).hR (cl m hm)) (i := j) (x := entc X j (E4 j)) (by rw [List.getElem?_map, List.getElem?_range hj]; rfl)
   have hel : (entc X j (E4 j)).length = 102 := entc_len (hXj j hj).hP (hXj j hj).hR (cl j hj)
   have hgd : good q4 := hat.good (i := j * 102) (by omega)
   subst e4
   have hk := (hat.drop (n := j * 102) (by omega)).take (n := 102) (by rw [List.length_drop]; omega)
   rw [f1] at hk
   have hk : At w (qadd (some ⟨b4, 0, none⟩) (j * 102)) (entc X j (E4 j)) := hk
   have hrl := rc_len (k := (X j).k) (c := (X j).c) (q := (X j).q) (x := .slice (E4 j).1 (E4 j).2.1.length (E4 j).2.2) (hXj j hj).hP (hXj j hj).hR
   have hcl := cl j hj
   refine ⟨hgd, hk.good (i := 0) (by omega), ?_, ?_, ?_, ?_⟩
   ·rw [hk.ldn (by omega) (by decide)]
    unfold entc
    rw [List.drop_zero, List.take_append_of_le_length (by omega), List.take_of_length_le (by omega)]
   ·rw [hk.ldn (by omega) (by decide)]
    unfold entc
    rw [List.drop_append, List.drop_of_length_le (by omega), List.nil_append, hrl, Nat.sub_self, List.drop_zero, List.take_append_of_le_length (by rw [List.length_map]; omega), List.take_of_length_le (by rw [List.length_map]; omega)]
   ·rw [hk.ld (by omega)]
    refine (List.getElem?_eq_getElem (by omega)).symm.trans ?_
    unfold entc
    rw [List.getElem?_append_right (by omega), hrl, List.getElem?_append_right (by rw [List.length_map]; omega), List.length_map, hcl]; rfl
   ·rw [hk.ld (by omega)]
    refine (List.getElem?_eq_getElem (by omega)).symm.trans ?_
    unfold entc
    rw [List.getElem?_append_right (by omega), hrl, List.getElem?_append_right (by rw [List.length_map]; omega), List.length_map, hcl]; rfl
  ·exact kidN (I.hR.kp wt kt I.oR.nb).sl.at (fun y hy => by
    obtain ⟨m, hm, rfl⟩ := List.mem_map.1 hy
    have hm := I.hX m (List.mem_range.1 hm)
    exact rc_len hm.hP hm.hR) (by decide) (by rw [List.getElem?_map, List.getElem?_range hji]; rfl)
  ·exact kidN (I.hT.kp wt kt I.oT.nb).sl.at (fun y hy => by
    obtain ⟨m, hm, rfl⟩ := List.mem_map.1 hy
    have hm := I.hX m (List.mem_range.1 hm)
    rw [List.length_map, hm.cd]; exact ctN_length.trans hmc_length) (by decide) (by rw [List.getElem?_map, List.getElem?_range hji]; rfl)
  ·have hl : j < ((List.range i).map fun j => nI (off X (j + 1))).length := by rw [List.length_map, List.length_range]; exact hji
   have hat := (I.hD.kp wt kt I.oD.nb).sl.at
   refine ⟨hat.good hl, ?_⟩
   rw [Nat.mul_one, hat.ld hl, List.getElem_map, List.getElem_range]
  ·exact (S4.it j hj).1 w (k4.mono fun c h => .inl (by have := (I.bk.lt wt).1; omega))
  ·exact I.it j hji w (kt.mono fun c h => .inl h)
 refine run1 ?_
 refine W.loop (α := Nat × St) (fun a => [(8, .slice qT i cT), (9, .slice qD i cD), (10, .slice qR i cR), (17, nI n'), (18, .slice q4 n' c4), (21, nI (off X a.1)), (22, nI a.1)]) (fun _ => []) (fun a => a.2) (fun a => a.1 ≤ n' ∧ Kn u a.2) (fun a => n' - a.1) (0, u) ⟨Nat.zero_le _, .refl⟩ (.cons rfl (.cons rfl (.cons rfl (.cons rfl (.cons rfl (.cons rfl (.cons rfl .nil))))))) rfl rfl (by show n' - 0 < _; omega) ?_
 rintro ⟨j, v⟩ ⟨j1, kv⟩
 simp only at j1 kv
 dsimp only
 have wv : Wf v := kv.wf wu
 by_cases hj : j < n'
 ·obtain ⟨⟨a1, a2, a3, a4, a5, a6⟩, ⟨b1, b2⟩, ⟨c1, c2⟩, ⟨d1, d2⟩, e1, e2⟩ := F kv j hj
  have hji : j < i := by omega
  refine run1 ?_
  refine W.dr plan33 (by kernel_rfl) rfl (run1 ?_)
  have eqR : ∀ (y : Option Addr) (n m : Nat), eqV 5 (.agg ⟨rcV (X j).k (X j).c (X j).q (X j).P (X j).R (.slice y n m)⟩) (.agg ⟨rcV (X j).k (X j).c (X j).q (X j).P (X j).R (.slice y n m)⟩) = true := fun y n m => eqV_agg rc_eqV
  refine Wd.read rfl (Xv.ldN rfl rfl rfl a3) rfl (eqR _ _ _) ⟨Xv.ldN rfl rfl rfl a3, trivial⟩ (run1 ?_)
  refine Wd.read rfl (Xv.ldN rfl rfl rfl b2) rfl (eqR _ _ _) ⟨Xv.ldN rfl rfl rfl b2, trivial⟩ (run1 ?_)
  refine Wd.call rfl (Xc.call ok11 rfl) rfl ((rsame_ok wv (hXj j hj).hP (hXj j hj).hR e1 e2 (S4.it j hj).2).mono ?_)
  rintro v1 v' ⟨rfl, kv'⟩
  refine ⟨kv'.le, ?_⟩
  obtain ⟨⟨p1, p2, p3, p4, p5, p6⟩, ⟨q1, q2⟩, ⟨r1', r2'⟩, ⟨t1, t2⟩, _, _⟩ := F (kv.trans kv') j hj
  refine run1 ?_
  have hCC : ¬ (X j).C ≠ (X j).C := fun h => h rfl
  have hob : ¬ off X j ≠ off X j := fun h => h rfl
  have hoe : ¬ off X (j + 1) ≠ off X (j + 1) := fun h => h rfl
  refine Wd.read rfl (Xv.ldN rfl rfl rfl p4) rfl eqV_h ⟨Xv.ldN rfl rfl rfl p4, trivial⟩ (run1 ?_)
  refine Wd.read rfl (Xv.ldN rfl rfl rfl r2') rfl eqV_h ⟨Xv.ldN rfl rfl rfl r2', trivial⟩ (run1 ?_)
  refine Wd.val rfl (Xv.neH HH HG rfl rfl (cl j hj) (cl j hj)) rfl (Nat.le_refl _) (run1 ?_)
  exact rnd.n (j + 1, v') ⟨hj, kv.trans kv'⟩ (by show n' - (j + 1) < n' - j; omega) (.cons rfl (.cons rfl (.cons rfl (.cons rfl (.cons rfl (.cons rfl (.cons rfl .nil))))))) rfl rfl
 ·refine run1 ?_
  exact Lv.ret rfl rfl
end Go.Proofs.YtglilbadldocoaaGreatDoor
