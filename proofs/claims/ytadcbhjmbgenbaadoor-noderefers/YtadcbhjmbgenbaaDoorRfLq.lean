import Derived.Test.YtadcbhjmbgenbaaDoorRl1q
/-
  NodeRefers: the law.
-/
namespace Go.Proofs.YtadcbhjmbgenbaaDoor
open Go.RowKit Go.Sort Go.Maps Go.MuLone

theorem wpList_stRn {ops : Array Oper} {rest : List Oper} {op : Oper} {a : Act} {w : World} {Q : Exit → Act → World → Prop} (hw : Region.wanted op (yielded ops a.tmps) = true) (x y : Operand) (ho : op.op = .store 33 x y) (r q : Rf) (v t : Value) (hr : IsH r.h) (hq : IsH q.h) (h1 : v.oneCell' = true)
    (hx : a.eval x = .pointer (some ⟨w.heap.size, 0, none⟩)) (hy : a.eval y = .agg (rcs r v).toArray) (h : wpList Tryd.prog ops Q rest (a.put op.dst undef) (w.alloc (.cells (rcs r v).toArray 33))) :
    wpList Tryd.prog ops Q (op :: rest) a (w.alloc (.cells (rcs q t).toArray 33)) := by
  refine wpList_stR hw x y ho w.heap.size r q v t hr hq h1 (heap_alloc_new _ _) hx hy ?_
  rw [World.setRow_alloc_new]
  exact h
theorem rng_new (w : World) (cs : List Value) (t : TypeId) : (w.alloc (.cells cs.toArray t)).rangeAt w.heap.size 0 cs := rng_row (heap_alloc_new _ _)
theorem rng_bel {w w' : World} {b o : Nat} {cs : List Value} (h : w.rangeAt b o cs) (hb : b < w.heap.size) (k : Below w.heap.size w w') : w'.rangeAt b o cs := rng_same h (k.block b hb)
theorem vf_one {P : Nat → Prop} {w : World} {v : Value} {s : List Nat} (h : Vf P w v s) : v.oneCell' = true := by
  obtain ⟨a, b, off, c, rfl, -⟩ := h
  rfl
/-- where the law stands behind both Refers -/
structure At5 (w X : World) (sb n : Nat) (g8 g10 lo hi : Nat) (F5 : Nat → Prop) (R : Rf) (u3 u4 u5 : Value) (s : List Nat) : Prop where
  bo : Bo X w.heap.size sb n 1 F5
  v3 : Vf (fun q => q < lo ∧ ¬ F5 q) X u3 R.b
  r3 : X.rangeAt g8 0 (rcs R u3)
  l3 : g8 < lo
  ry : Ry (fun q => lo ≤ q ∧ q < hi) X u4 s
  r5 : X.rangeAt g10 0 (rcs R u5)
  l5 : hi ≤ g10 ∧ g10 < X.heap.size
  v5 : Vf (fun q => hi < q ∧ ¬ F5 q) X u5 R.b
  bw : Below w.heap.size w X
  f5 : ∀ i, F5 i → w.heap.size ≤ i ∧ (i < lo ∨ hi ≤ i)
  n8 : ¬ F5 g8 ∧ ¬ F5 g10
  wl : w.heap.size ≤ lo
theorem At5.keep {w X Y : World} {sb n g8 g10 lo hi : Nat} {F5 : Nat → Prop} {R : Rf} {u3 u4 u5 : Value} {s : List Nat} (h : At5 w X sb n g8 g10 lo hi F5 R u3 u4 u5 s) (k : Below X.heap.size X Y) : At5 w Y sb n g8 g10 lo hi F5 R u3 u4 u5 s := by
  have h5 := h.l5
  have hl : hi ≤ X.heap.size := by omega
  have hlo : lo ≤ X.heap.size := by
    obtain ⟨g, _, _, q, _, _, p, _⟩ := h.ry
    have := q.lt (by omega)
    omega
  exact ⟨h.bo.below k, h.v3.below k, rng_bel h.r3 (by have := h.l3; omega) k, h.l3, h.ry.below k, rng_bel h.r5 h5.2 k, ⟨h5.1, Nat.lt_of_lt_of_le h5.2 k.size⟩, h.v5.below k, h.bw.trans (k.mono h.bw.size), h.f5, h.n8, h.wl⟩
/-- behind the turned copy -/
structure At6 (w X : World) (sb n N : Nat) (F : Nat → Prop) : Prop where
  bo : Bo X w.heap.size sb n N F
  bw : Below w.heap.size w X
theorem At6.keep {w X Y : World} {sb n N : Nat} {F : Nat → Prop} (h : At6 w X sb n N F) (k : Below X.heap.size X Y) : At6 w Y sb n N F := ⟨h.bo.below k, h.bw.trans (k.mono h.bw.size)⟩
theorem At6.bt {w X Y : World} {sb n N M : Nat} {F : Nat → Prop} (h : At6 w X sb n N F) (k : Bt X Y w.heap.size sb n M F) : ∃ F', At6 w Y sb n M F' := by
  obtain ⟨⟨F', -, -, b⟩, t⟩ := k
  exact ⟨F', b, h.bw.trans (t.below (fun i q => (h.bo.lim i q).1) h.bw.size)⟩
theorem At5.turn {w X Y : World} {sb n g8 g10 lo hi g : Nat} {F5 : Nat → Prop} {R : Rf} {u3 u4 u5 : Value} {s : List Nat} (h : At5 w X sb n g8 g10 lo hi F5 R u3 u4 u5 s) (hg : lo ≤ g ∧ g < hi) (t : Turn (fun q => q = g) X Y) : At6 w Y sb n 1 F5 ∧ Vf (fun q => q < lo ∧ ¬ F5 q) Y u3 R.b ∧ Vf (fun q => hi < q ∧ ¬ F5 q) Y u5 R.b ∧ Y.rangeAt g8 0 (rcs R u3) ∧ Y.rangeAt g10 0 (rcs R u5) := by
  have h5 := h.l5
  have h3 := h.l3
  have hw := h.wl
  refine ⟨⟨h.bo.turn t (fun i q e => by have := (h.f5 i q).2; omega), h.bw.trans (t.below (fun i e => by omega) h.bw.size)⟩, h.v3.same (fun i q hl => t.block i hl (by omega)), h.v5.same (fun i q hl => t.block i hl (by omega)), rng_same h.r3 (t.block _ (by omega) (by omega)), rng_same h.r5 (t.block _ h5.2 (by omega))⟩
set_option maxRecDepth 100000 in
set_option maxHeartbeats 12800000 in
theorem nrefers_any (w : World) (hG : Gr w) (kk : Int) (v : Value) (s : List Nat) (h : Vf (fun i => i < w.heap.size) w v s) : Calls Tryd.prog 3 #[.int .i64 kk, v] w fun e w' => e = .returned (.bool true) ∧ Below w.heap.size w w' := by
  have hz := zvR
  have K0 := bitsOf_any w kk
  have hn := nbo_le kk
  obtain ⟨n, en⟩ : ∃ n, n = nbo kk := ⟨_, rfl⟩
  rw [← en] at K0 hn
  obtain ⟨R, eR⟩ : ∃ R, R = rfr n s := ⟨_, rfl⟩
  have hR : IsH R.h := by rw [eR]; exact rfr_isH n s
  have HA : Hid (∀ X, Below w.heap.size w X → Vf (fun i => i < w.heap.size) X v s ∧ Gr X ∧ Ground X) := fun X k => ⟨h.below k, hG.below k, (hG.below k).g⟩
  have HB : Hid (2 < w.heap.size) := hG.g.big
  have K1 := secr_any w
  have HK2 : Hid (∀ w1, Below w.heap.size w w1 → Vw w1 (some ⟨w.heap.size, 0, none⟩) w.heap.size 0 z32 → Calls Tryd.prog 5 #[.int .i64 ((n : Nat) : Int), .int .i64 256, .slice (some ⟨w.heap.size, 0, none⟩) 32 32] w1 fun e w' => ∃ sb F, e = .returned (.tuple #[.pointer (some ⟨sb, 0, none⟩), .int .i64 0]) ∧ Below w1.heap.size w1 w' ∧ Bo w' w.heap.size sb n 0 F ∧ ∀ i, F i → w1.heap.size ≤ i) := fun w1 b1 v1 => by
    refine (new_ok w1 n 256 _ _ _ 32 z32 v1 hn (by omega) z32_isH.1 w.heap.size b1.size).mono ?_
    rintro e w' ⟨sb, F, rfl, b, bk, hf⟩
    exact ⟨sb, F, rfl, b, ⟨_, bk, rfl, by simp⟩, hf⟩
  have HK3 : Hid (∀ X, Below w.heap.size w X → Calls Tryd.prog 8 #[.int .i64 ((n : Nat) : Int), v] X fun e w' => ∃ u, e = .returned (.agg (rcs R u).toArray) ∧ Vf (fun q => X.heap.size < q) w' u R.b ∧ Below X.heap.size X w') := fun X k => by
    rw [eR]
    exact rRefer_any hn.2 (HA.out X k).1 (HA.out X k).2.1
  have HK5 : Hid (∀ (X : World) (P : Nat → Prop) (u : Value) (sb : Nat) (F : Nat → Prop), Below w.heap.size w X → Bo X w.heap.size sb n 0 F → Vf P X u s → (∀ i, P i → ¬ F i) → Calls Tryd.prog 10 #[.pointer (some ⟨sb, 0, none⟩), u] X fun e w' => ∃ (u : Value) (F' : Nat → Prop), e = .returned (.agg (rcs R u).toArray) ∧ Vf (fun q => X.heap.size < q ∧ ¬ F' q) w' u R.b ∧ (∀ i, F' i → F i ∨ X.heap.size ≤ i) ∧ Bo w' w.heap.size sb n 1 F' ∧ Turn F X w') := fun X P u sb F k bo hv hp => by
    rw [eR]
    exact nRefer_any bo (HA.out X k).2.2 HB.out (by omega) hv hp
  obtain ⟨av, nv, cv, rfl⟩ : ∃ a n c, v = .slice a n c := by
    obtain ⟨a, b, off, c, e, -⟩ := h
    exact ⟨a, _, c, e⟩
  have bd0 := builtR0
  clear h hG en eR
  go_enter Tryd.func3, Tryd.ntmps3
  go_upto_region 11 with (first
    | (go_at_call 4; go_loud (refine K0.mono ?_; rintro e w0 ⟨rfl, hw0⟩; have hw1 := hw0.symm; subst hw1; clear K0))
    | (go_at_call 6; go_loud (refine K1.mono ?_; rintro e w1 ⟨rfl, v1, b1⟩; have K2 := HK2.out w1 b1 v1; have H1 : Hid (Below w.heap.size w w1) := b1; clear v1 b1 K1))
    | (go_at_call 5; go_loud (refine K2.mono ?_; rintro e w2 ⟨sb, F, rfl, b2, bo2, hF2⟩; have B2 := ch H1.out b2; have sW := B2.size; have Kn := rnum_any w2 0; have K3 := HK3.out w2 B2; have H2 : Hid (Below w.heap.size w w2 ∧ Bo w2 w.heap.size sb n 0 F ∧ w1.heap.size ≤ w2.heap.size) := ⟨B2, bo2, b2.size⟩; clear b2 B2 bo2 hF2 K2))
    | (go_at_call 7; go_loud (refine Kn.mono ?_; rintro e w2' ⟨rfl, hw2⟩; have hw3 := hw2.symm; subst hw3; clear Kn))
    | (go_at_call 8; go_loud (refine K3.mono ?_; rintro e w3 ⟨u3, rfl, vf3, b3⟩; have o3 := vf_one vf3; have B3 := ch b3 (below_new w3 (.cells (rcs R u3).toArray 33)); have W3 := ch H2.out.1 B3; have K4 := roomy3_any (HA.out _ W3).1; have H3 : Hid (Below w.heap.size w (w3.alloc (.cells (rcs R u3).toArray 33)) ∧ Bo (w3.alloc (.cells (rcs R u3).toArray 33)) w.heap.size sb n 0 F ∧ Vf (fun q => w2.heap.size < q ∧ q < w3.heap.size + 1) (w3.alloc (.cells (rcs R u3).toArray 33)) u3 R.b ∧ (w3.alloc (.cells (rcs R u3).toArray 33)).rangeAt w3.heap.size 0 (rcs R u3) ∧ w2.heap.size ≤ w3.heap.size ∧ (∀ i, F i → w.heap.size ≤ i ∧ i < w2.heap.size)) := ⟨W3, H2.out.2.1.below B3, (vf3.mono (Q := fun q => w2.heap.size < q ∧ q < w3.heap.size + 1) (fun q hq hl => ⟨hq, by omega⟩)).below (below_new _ _), rng_new _ _ _, b3.size, H2.out.2.1.lim⟩; clear vf3 b3 B3 W3 K3 H2))
    | refine wpList_stRn (by kernel_rfl) _ _ (by rfl) R rz u3 (.slice none 0 0) hR z32_isH o3 (by rfl) (by rfl) ?_
    | (go_at_call 9; go_loud (refine K4.mono ?_; rintro e w4 ⟨u4, rfl, ry4, b4⟩; rw [World.size_alloc] at ry4; have K5 := HK5.out w4 _ u4 sb F (ch H3.out.1 b4) (H3.out.2.1.below b4) ry4.vf (fun i hp hf => by have := (H3.out.2.2.2.2.2 i hf).2; have := H3.out.2.2.2.2.1; omega); have H4 : Hid (Below w.heap.size w w4 ∧ Vf (fun q => w2.heap.size < q ∧ q < w3.heap.size + 1) w4 u3 R.b ∧ w4.rangeAt w3.heap.size 0 (rcs R u3) ∧ Ry (fun q => w3.heap.size + 1 ≤ q ∧ q < w4.heap.size) w4 u4 s ∧ w2.heap.size ≤ w3.heap.size ∧ (∀ i, F i → w.heap.size ≤ i ∧ i < w2.heap.size) ∧ w3.heap.size < w4.heap.size) := ⟨ch H3.out.1 b4, H3.out.2.2.1.below b4, rng_bel H3.out.2.2.2.1 (by simp) b4, ry4, H3.out.2.2.2.2.1, H3.out.2.2.2.2.2, (by have := b4.size; rw [World.size_alloc] at this; omega)⟩; obtain ⟨g4, cap4, e4, -⟩ := ry4; subst e4; clear b4 K4 H3))
    | (go_at_call 10; go_loud (refine K5.mono ?_; rintro e w5 ⟨u5, F5, rfl, vf5, hF5, bo5, t5⟩; have o5 := vf_one vf5; have hFb : ∀ i, F i → w.heap.size ≤ i := (fun i q => (H4.out.2.2.2.2.2.1 i q).1); have bT := t5.below hFb (Nat.le_trans H4.out.1.size (Nat.le_refl _)); have BW := H4.out.1.trans bT; have nF : ∀ i, w2.heap.size ≤ i → ¬ F i := (fun i q f => by have := (H4.out.2.2.2.2.2.1 i f).2; omega); have nF5 : ∀ i, w2.heap.size ≤ i → i < w4.heap.size → ¬ F5 i := (fun i q q2 f => by rcases hF5 i f with z | z; exact nF i q z; omega); have l5 := bo5.lim; have s45 := t5.size; have A5 : At5 w (w5.alloc (.cells (rcs R u5).toArray 33)) sb n w3.heap.size w5.heap.size (w3.heap.size + 1) w4.heap.size F5 R u3 (.slice (some ⟨g4, 0, none⟩) s.length cap4) u5 s := ⟨bo5.below (below_new _ _), (((H4.out.2.1.same (fun i hi hl => t5.block i hl (nF i (by omega)))).mono (Q := fun q => q < w3.heap.size + 1 ∧ ¬ F5 q) (fun q hq hl => ⟨hq.2, nF5 q (by omega) (by have := H4.out.2.2.2.2.2.2; omega)⟩)).below (below_new _ _)), rng_bel (rng_same H4.out.2.2.1 (t5.block _ (by have := H4.out.2.2.2.2.2.2; omega) (nF _ H4.out.2.2.2.2.1))) (by have := H4.out.2.2.2.2.2.2; omega) (below_new _ _), by omega, ((H4.out.2.2.2.1.same (fun i hi hl => t5.block i hl (nF i (by have := H4.out.2.2.2.2.1; omega)))).below (below_new _ _)), rng_new _ _ _, ⟨s45, by simp⟩, vf5.below (below_new _ _), BW.trans ((below_new w5 _).mono BW.size), (fun i f => ⟨by rcases hF5 i f with z | z; exact hFb i z; exact Nat.le_trans H4.out.1.size z, by rcases hF5 i f with z | z; (left; have := (H4.out.2.2.2.2.2.1 i z).2; have := H4.out.2.2.2.2.1; omega); right; exact z⟩), ⟨nF5 _ H4.out.2.2.2.2.1 H4.out.2.2.2.2.2.2, fun f => by have := (l5 _ f).2; omega⟩, by have := H4.out.2.2.2.2.1; omega⟩; have K6 := nRefer_nil (w := w5.alloc (.cells (rcs R u5).toArray 33)) (v := .slice (some ⟨g4, 0, none⟩) s.length cap4); have H5 : Hid (At5 w (w5.alloc (.cells (rcs R u5).toArray 33)) sb n w3.heap.size w5.heap.size (w3.heap.size + 1) w4.heap.size F5 R u3 (.slice (some ⟨g4, 0, none⟩) s.length cap4) u5 s) := A5; clear vf5 hF5 bo5 t5 hFb bT BW nF nF5 l5 s45 A5 K5 H4))
    | refine wpList_stRn (by kernel_rfl) _ _ (by rfl) R rz u5 (.slice none 0 0) hR z32_isH o5 (by rfl) (by rfl) ?_
    | (go_at_call 10; go_loud (refine K6.mono ?_; rintro e w6 ⟨rfl, b6⟩; have A6 := H5.out.keep (ch b6 (below_new w6 (.cells (rcs rz (.slice none 0 0)).toArray 33))); have r10 := A6.r5; have r8 := A6.r3; have K7 := sameRef_yes hR A6.v5 A6.v3; have H6 : Hid (At5 w (w6.alloc (.cells (rcs rz (.slice none 0 0)).toArray 33)) sb n w3.heap.size w5.heap.size (w3.heap.size + 1) w4.heap.size F5 R u3 (.slice (some ⟨g4, 0, none⟩) s.length cap4) u5 s) := A6; clear b6 A6 K6 H5))
    | refine wpList_stRn (by kernel_rfl) _ _ (by rfl) rz rz (.slice none 0 0) (.slice none 0 0) z32_isH z32_isH (by rfl) (by rfl) (by rfl) ?_
    | refine wpList_ldR (by kernel_rfl) _ (by rfl) w5.heap.size R u5 hR r10 (by rfl) ?_
    | refine wpList_ldR (by kernel_rfl) _ (by rfl) w3.heap.size R u3 hR r8 (by rfl) ?_
    | (go_at_call 11; go_loud (refine K7.mono ?_; rintro e w7 ⟨rfl, b7⟩; have r11 := rng_bel (rng_new w6 (rcs rz (.slice none 0 0)) 33) (by simp) b7; have K8 := sameRef_yes (w := w7) (r := rz) z32_isH (vf_nil (fun _ => True) _) (vf_nil (fun _ => True) _); have H7 : Hid (At5 w w7 sb n w3.heap.size w5.heap.size (w3.heap.size + 1) w4.heap.size F5 R u3 (.slice (some ⟨g4, 0, none⟩) s.length cap4) u5 s) := H6.out.keep b7; clear b7 K7 r10 r8 H6))
    | refine wpList_ldR (by kernel_rfl) _ (by rfl) w6.heap.size rz (.slice none 0 0) z32_isH r11 (by rfl) ?_
    | refine wpList_bdL (by kernel_rfl) _ _ (by rfl) _ bd0 ?_
    | (go_at_call 11; go_loud (refine K8.mono ?_; rintro e w8 ⟨rfl, b8⟩; have A8 := H7.out.keep b8; have K9 := aswas3_any (HA.out w8 A8.bw).1 A8.ry; have H8 : Hid (At5 w w8 sb n w3.heap.size w5.heap.size (w3.heap.size + 1) w4.heap.size F5 R u3 (.slice (some ⟨g4, 0, none⟩) s.length cap4) u5 s) := A8; clear b8 A8 K8 r11 H7))
    | (go_at_call 12; go_loud (refine K9.mono ?_; rintro e w9 ⟨rfl, b9⟩; have H9 : Hid (At5 w w9 sb n w3.heap.size w5.heap.size (w3.heap.size + 1) w4.heap.size F5 R u3 (.slice (some ⟨g4, 0, none⟩) s.length cap4) u5 s) := H8.out.keep b9; clear b9 K9 H8)))
  obtain ⟨g, capx, N, f, ex, hP, hglt, hrow, hN, hf, hl, hsb⟩ := H9.out.ry.row
  injection ex with ex1
  injection ex1 with ex2
  injection ex2 with ex3
  subst ex3
  have HP : Hid (w3.heap.size + 1 ≤ g4 ∧ g4 < w4.heap.size) := hP
  obtain ⟨ns, ens⟩ : ∃ m, m = s.length := ⟨_, rfl⟩
  have HF : Hid (∀ i, i < ns → f i = .int .u8 (gd s i : Nat) ∧ gd s i < 256) := fun i hi => ⟨hf i (by omega), gd_lt hsb i⟩
  have HR0 : Hid (w9.rowIs g4 5 N f) := hrow
  rw [← ens] at H9 hN hl ⊢
  have hk1 := kh_isH n s128
  have HK12 : Hid (∀ (X : World) (M : Nat) (F : Nat → Prop), At6 w X sb n M F → M ≤ 1000 → Calls Tryd.prog 13 #[.pointer (some ⟨sb, 0, none⟩)] X fun e w' => e = .returned (.agg (bv (kh n s128)).toArray) ∧ ∃ F', At6 w w' sb n (M + 1) F') := fun X M F a hm => by
    refine (nEmpty_any a.bo (HA.out X a.bw).2.2 HB.out hm).mono ?_
    rintro e w' ⟨rfl, b⟩
    exact ⟨rfl, a.bt b⟩
  have HK15 : Hid (∀ (X : World) (M : Nat) (F : Nat → Prop), At6 w X sb n M F → M ≤ 1000 → Calls Tryd.prog 15 #[.pointer (some ⟨sb, 0, none⟩), .slice (some ⟨X.heap.size, 0, none⟩) 1 1] (X.alloc (.cells #[.int .u8 128] 5)) fun e w' => e = .returned (.agg (bv (kh n s128)).toArray) ∧ ∃ F', At6 w w' sb n (M + 1) F') := fun X M F a hm => by
    have a2 := a.keep (below_new X (.cells #[.int .u8 128] 5))
    refine (bhash_any a2.bo (HA.out _ a2.bw).2.2 HB.out hm (vf_128 X) (fun i q z => ?_)).mono ?_
    · have := (a.bo.lim i z).2
      omega
    · rintro e w' ⟨rfl, b⟩
      exact ⟨rfl, a2.bt b⟩
  have HK13 : Hid (∀ (X : World), Below w.heap.size w X → Calls Tryd.prog 14 #[.int .i64 ((n : Nat) : Int), .slice (some ⟨X.heap.size, 0, none⟩) 1 1] (X.alloc (.cells #[.int .u8 128] 5)) fun e w' => e = .returned (.agg (bv (kh n s128)).toArray) ∧ Below (X.alloc (.cells #[.int .u8 128] 5)).heap.size (X.alloc (.cells #[.int .u8 128] 5)) w') := fun X bX => by
    obtain ⟨a, b, off, c, e, hv, -⟩ := vf_128 X
    injection e with e1 e2 e3
    subst e1 e3
    exact rhashN_any _ n hn.2 _ b off 1 s128 hv (by intro q; cases q) (by simp [s128]) (HA.out _ (bX.trans ((below_new X _).mono bX.size))).2.1
  obtain ⟨k1, ek1⟩ : ∃ k, k = kh n s128 := ⟨_, rfl⟩
  rw [← ek1] at HK12 HK13 HK15 hk1
  have heqk := fun w0 => eq_h2 w0 k1 hk1
  obtain ⟨zz, ezz⟩ : ∃ z, z = z32 := ⟨_, rfl⟩
  have HK11 : Hid (∀ X : World, Calls Tryd.prog 13 #[.pointer none] X fun e w' => e = .returned (.agg (bv zz).toArray) ∧ Below X.heap.size X w') := fun X => by rw [ezz]; exact nEmpty_nil
  have heqz : ∀ w0, (Op.equalIn 10000 31 (.agg (bv zz).toArray) (.agg (bv zz).toArray)).run Tryd.prog w0 = .ok true w0 := fun w0 => by rw [ezz]; exact eq_h2 w0 z32 z32_isH
  have bdz : Tryd.prog.built 31 [] = some (bv zz).toArray := by rw [ezz]; kernel_rfl
  clear hrow hf hsb hP hglt ek1 ezz ens bd0
  go_wp2_with fail
  go_loopg [56] ns (fun gg i wr => ∃ k : Nat, k ≤ ns ∧ gg = ns - k ∧ i = .int .i64 k ∧ Turn (fun q => q = g4) w9 wr ∧ ∃ G : Nat → Value, wr.rowIs g4 5 N G ∧ ∀ i, k ≤ i → G i = f i)
  case atStart => exact ⟨0, by omega, rfl, rfl, Turn.refl _ _, f, HR0.out, fun _ _ => rfl⟩
  case round =>
    obtain ⟨k, hk, rfl, rfl, hs, G, hRw, hGf⟩ := hrel
    clear HR0
    by_cases hkn : k < ns
    · have i1 : (k : Int) < (ns : Int) := by omega
      have cc := hRw.cell (i := k) (by omega)
      have fz := hRw.frozen k
      rw [hGf k (Nat.le_refl _), (HF.out k hkn).1] at cc
      have hzz := (HF.out k hkn).2
      obtain ⟨z, hze⟩ : ∃ z, z = gd s k := ⟨_, rfl⟩
      rw [← hze] at cc hzz
      have hxx := u8_xor_nat z 60 hzz (by decide)
      rw [show ((60 : Nat) : Int) = (60 : Int) from rfl] at hxx
      have HR : Hid (wr.rowIs g4 5 N G ∧ Turn (fun q => q = g4) w9 wr ∧ ∀ i, k ≤ i → G i = f i) := ⟨hRw, hs, hGf⟩
      clear hRw hs hGf hze
      go_wp2_with fail
      go_roundg (ns - (k + 1))
      case measure => omega
      case rel =>
        refine ⟨k + 1, by omega, rfl, by go_num, HR.out.2.1.trans (Turn.setCell (F := fun q => q = g4) _ _ _ rfl) (fun i q => Or.inl q), _, HR.out.1.set k _, fun i hi => ?_⟩
        show (if i = k then _ else G i) = f i
        rw [if_neg (by omega), HR.out.2.2 i (by omega)]
    · have i1 : ¬ (k : Int) < (ns : Int) := by omega
      obtain ⟨a6, v3, v5, r8, r10⟩ := H9.out.turn HP.out hs
      have K10 := sameRef_yes hR v5 v3
      have H10 : Hid (At6 w wr sb n 1 F5) := a6
      clear a6 v3 v5 hs hRw hGf
      go_wp2_with (first
        | refine wpList_bdL (by kernel_rfl) _ _ (by rfl) _ bdz ?_
        | refine wpList_ldR (by kernel_rfl) _ (by rfl) w5.heap.size R u5 hR r10 (by rfl) ?_
        | refine wpList_ldR (by kernel_rfl) _ (by rfl) w3.heap.size R u3 hR r8 (by rfl) ?_
        | (go_at_call 11; go_loud (refine K10.mono ?_; rintro e w10 ⟨rfl, b10⟩; have K11 := HK11.out w10; have H11 : Hid (At6 w w10 sb n 1 F5) := H10.out.keep b10; clear b10 K10 r8 r10 H10))
        | (go_at_call 13; go_loud (refine K11.mono ?_; rintro e w11 ⟨rfl, b11⟩; have A11 := H11.out.keep b11; have K12 := HK12.out w11 1 F5 A11 (by omega); clear b11 K11 H11 A11))
        | (go_at_call 13; go_loud (refine K12.mono ?_; rintro e w12 ⟨rfl, F12, A12⟩; have K13 := HK13.out w12 A12.bw; have H12 : Hid (At6 w w12 sb n (1 + 1) F12) := A12; clear A12 K12))
        | (go_at_call 14; go_loud (refine K13.mono ?_; rintro e w13 ⟨rfl, b13⟩; have K14 := HK12.out w13 (1 + 1) F12 (H12.out.keep (ch (below_new _ _) b13)) (by omega); clear b13 K13 H12))
        | (go_at_call 13; go_loud (refine K14.mono ?_; rintro e w14 ⟨rfl, F14, A14⟩; have K15 := HK15.out w14 (1 + 1 + 1) F14 A14 (by omega); clear A14 K14))
        | (go_at_call 15; go_loud (refine K15.mono ?_; rintro e w15 ⟨rfl, F15, A15⟩; have H15 : Hid (Below w.heap.size w w15) := A15.bw; clear A15 K15)))
      go_ret
      exact ⟨rfl, H15.out⟩
end Go.Proofs.YtadcbhjmbgenbaaDoor
