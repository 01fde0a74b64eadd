import Derived.Test.YtcnhinnpieehoaaGreatDoorQShazz
import Derived.Test.YtcnhinnpieehoaaGreatDoorNRhzz
import Derived.Lib.SliceRun
namespace Go.Proofs.YtcnhinnpieehoaaGreatDoor.Dg
def now {α : Type} (n : Nat) (k : Nat → α) : α := match n with | 0 => k 0 | m + 1 => k (m + 1)
theorem now_eq {α : Type} (n : Nat) (k : Nat → α) : now n k = k n := by cases n <;> rfl
def eround (k a b c d e f g h w : Nat) {α : Type} (r : Nat → Nat → α) : α :=
 now (((((h + big1 e) % M + pick e f g) % M + k) % M + w) % M) fun x => now ((x + (big0 a + most a b c) % M) % M) fun a' => now ((d + x) % M) fun e' => r a' e'
def erounds : List Nat → List Nat → Nat → Nat → Nat → Nat → Nat → Nat → Nat → Nat → W8
 | k :: ks, w0 :: w1 :: w2 :: w3 :: w4 :: w5 :: w6 :: w7 :: w8 :: w9 :: w10 :: w11 :: w12 :: w13 :: w14 :: w15 :: r, a, b, c, d, e, f, g, h =>
  now (wnew w14 w9 w1 w0) fun w16 =>
   eround k a b c d e f g h w0 fun a' e' => erounds ks (w1 :: w2 :: w3 :: w4 :: w5 :: w6 :: w7 :: w8 :: w9 :: w10 :: w11 :: w12 :: w13 :: w14 :: w15 :: w16 :: r) a' a b c e' e f g
 | _, _, a, b, c, d, e, f, g, h => ⟨a, b, c, d, e, f, g, h⟩
theorem erounds_step (k : Nat) (ks : List Nat) (w0 w1 w2 w3 w4 w5 w6 w7 w8 w9 w10 w11 w12 w13 w14 w15 : Nat) (s : W8) :
  erounds (k :: ks) [w0, w1, w2, w3, w4, w5, w6, w7, w8, w9, w10, w11, w12, w13, w14, w15] s.a s.b s.c s.d s.e s.f s.g s.h =
   erounds ks [w1, w2, w3, w4, w5, w6, w7, w8, w9, w10, w11, w12, w13, w14, w15, wnew w14 w9 w1 w0] (turn1 s k w0).a (turn1 s k w0).b (turn1 s k w0).c (turn1 s k w0).d (turn1 s k w0).e (turn1 s k w0).f (turn1 s k w0).g (turn1 s k w0).h := by
 rw [erounds, now_eq]
 unfold eround
 rw [now_eq, now_eq, now_eq]
 rfl
def win (B : Nat → Nat) (t : Nat) : List Nat := [sched B t, sched B (t + 1), sched B (t + 2), sched B (t + 3), sched B (t + 4), sched B (t + 5), sched B (t + 6), sched B (t + 7), sched B (t + 8), sched B (t + 9), sched B (t + 10), sched B (t + 11), sched B (t + 12), sched B (t + 13), sched B (t + 14), sched B (t + 15)]
theorem erounds_turns (B : Nat → Nat) (s : W8) : ∀ (ks : List Nat) (t : Nat), (∀ i, i < ks.length → ks[i]? = some (K (t + i))) →
  erounds ks (win B t) (turns K (sched B) s t).a (turns K (sched B) s t).b (turns K (sched B) s t).c (turns K (sched B) s t).d (turns K (sched B) s t).e (turns K (sched B) s t).f (turns K (sched B) s t).g (turns K (sched B) s t).h = turns K (sched B) s (t + ks.length)
 | [], t, _ => by
  rw [erounds]
  ·rfl
  ·intro k ks' w0 w1 w2 w3 w4 w5 w6 w7 w8 w9 w10 w11 w12 w13 w14 w15 r h
   cases h
 | k :: ks, t, h => by
  have hk : k = K t := by
   have := h 0 (by simp)
   simpa using this
  unfold win
  rw [erounds_step]
  have e : wnew (sched B (t + 14)) (sched B (t + 9)) (sched B (t + 1)) (sched B t) = sched B (t + 16) := by
   rw [sched_high B (t := t + 16) (by omega)]
   rfl
  rw [e, hk]
  have ih := erounds_turns B s ks (t + 1) (fun i hi => by
   have := h (i + 1) (by simp; omega)
   rw [List.getElem?_cons_succ] at this
   rw [this, show t + (i + 1) = t + 1 + i by omega])
  have e2 : t + 1 + ks.length = t + (k :: ks).length := by simp; omega
  rw [e2] at ih
  rw [hk] at ih
  exact ih
def ewords : List Nat → List Nat
 | x0 :: x1 :: x2 :: x3 :: r => now (((x0 <<< 24 ||| x1 <<< 16) ||| x2 <<< 8) ||| x3) fun w => w :: ewords r
 | _ => []
def eb (s : W8) (l : List Nat) : W8 :=
 match s with
 | ⟨a, b, c, d, e, f, g, h⟩ =>
  match erounds KL (ewords l) a b c d e f g h with
  | ⟨a', b', c', d', e', f', g', h'⟩ =>
   now ((a + a') % M) fun a => now ((b + b') % M) fun b => now ((c + c') % M) fun c => now ((d + d') % M) fun d => now ((e + e') % M) fun e => now ((f + f') % M) fun f => now ((g + g') % M) fun g => now ((h + h') % M) fun h => ⟨a, b, c, d, e, f, g, h⟩
theorem range64 : List.range 64 = [0, 1, 2, 3, 4, 5, 6, 7, 8, 9, 10, 11, 12, 13, 14, 15, 16, 17, 18, 19, 20, 21, 22, 23, 24, 25, 26, 27, 28, 29, 30, 31, 32, 33, 34, 35, 36, 37, 38, 39, 40, 41, 42, 43, 44, 45, 46, 47, 48, 49, 50, 51, 52, 53, 54, 55, 56, 57, 58, 59, 60, 61, 62, 63] := by decide
theorem ewords_win (B : Nat → Nat) : ewords ((List.range 64).map B) = win B 0 := by
 rw [range64]
 simp only [List.map_cons, List.map_nil, ewords, now_eq]
 unfold win
 rw [sched_low B (show 0 < 16 by decide), sched_low B (show 0 + 1 < 16 by decide), sched_low B (show 0 + 2 < 16 by decide), sched_low B (show 0 + 3 < 16 by decide), sched_low B (show 0 + 4 < 16 by decide), sched_low B (show 0 + 5 < 16 by decide), sched_low B (show 0 + 6 < 16 by decide), sched_low B (show 0 + 7 < 16 by decide), sched_low B (show 0 + 8 < 16 by decide), sched_low B (show 0 + 9 < 16 by decide), sched_low B (show 0 + 10 < 16 by decide), sched_low B (show 0 + 11 < 16 by decide), sched_low B (show 0 + 12 < 16 by decide), sched_low B (show 0 + 13 < 16 by decide), sched_low B (show 0 + 14 < 16 by decide), sched_low B (show 0 + 15 < 16 by decide)]
 rfl
theorem KL_get : ∀ i, i < KL.length → KL[i]? = some (K (0 + i)) := by
 intro i hi
 rw [Nat.zero_add, List.getElem?_eq_getElem hi]
 unfold K
 rw [List.getD_eq_getElem?_getD, List.getElem?_eq_getElem hi]
 rfl
theorem eb_eq (s : W8) (B : Nat → Nat) : eb s ((List.range 64).map B) = fold1 s B := by
 have h := erounds_turns B s KL 0 KL_get
 rw [← ewords_win B] at h
 have h2 : erounds KL (ewords ((List.range 64).map B)) s.a s.b s.c s.d s.e s.f s.g s.h = turns K (sched B) s 64 := h
 unfold eb fold1
 rw [← h2]
 cases s
 simp only [now_eq, plus]
end Go.Proofs.YtcnhinnpieehoaaGreatDoor.Dg
namespace Go.Proofs.YtcnhinnpieehoaaGreatDoor.Nz
open Go.RowKit
def fl (ys : List (Bool × Value × Value)) : List Value := ys.flatMap (fun y => [.bool y.1, y.2.1, y.2.2])
theorem fl_at {ys : List (Bool × Value × Value)} {i : Nat} {y : Bool × Value × Value} (h : ys[i]? = some y) : (fl ys)[i * 3]? = some (.bool y.1) ∧ (fl ys)[i * 3 + 1]? = some y.2.1 ∧ (fl ys)[i * 3 + 2]? = some y.2.2 := by
 unfold fl
 induction ys generalizing i with
 | nil => simp at h
 | cons z t ih =>
  cases i with
  | zero =>
   simp at h
   subst h
   exact ⟨rfl, rfl, rfl⟩
  | succ i =>
   have := ih (i := i) (by simpa using h)
   rw [List.flatMap_cons, show (i + 1) * 3 = i * 3 + 3 by omega]
   exact this
theorem fl_app (ys zs : List (Bool × Value × Value)) : fl (ys ++ zs) = fl ys ++ fl zs := by simp [fl]
inductive Own (w : World) : Nat → Nat → It → Value → Value → Prop
 | str {lo hi : Nat} {b : List Nat} {vb : Value} (hb : w.ownsRow lo 5 1 vb b.length (bv b)) (hlt : ∀ q, vb.ownBlock = some q → q < hi) (ok : ∀ x ∈ b, x < 256) (hl : b.length ≤ 1048576) : Own w lo hi (.mk false b []) vb (.slice none 0 0)
 | lst {lo hi : Nat} {xs : List It} {vi : Value} (ys : List (Bool × Value × Value)) (s t : Nat → Nat) (row : w.ownsRow lo 87 3 vi xs.length (fl ys)) (hlt : ∀ q, vi.ownBlock = some q → q < hi) (hl : ys.length = xs.length) (hn : xs.length ≤ 1048576)
   (h1 : ∀ i, i < xs.length → lo ≤ s i) (h2 : ∀ i, i + 1 < xs.length → t i ≤ s (i + 1)) (h3 : ∀ i, i < xs.length → t i ≤ hi) (h4 : ∀ i, i < xs.length → s i ≤ t i) (hb : ∀ (i : Nat) (x : It) (y : Bool × Value × Value), xs[i]? = some x → ys[i]? = some y → y.1 = x.l)
   (hr : ∀ (i : Nat) (x : It) (y : Bool × Value × Value), xs[i]? = some x → ys[i]? = some y → Own w (s i) (t i) x y.2.1 y.2.2) : Own w lo hi (.mk true [] xs) (.slice none 0 0) vi
theorem own_same {w w' : World} {B e size n : Nat} {v : Value} {xs : List Value} (h : w.ownsRow B e size v n xs) (k : ∀ g, v.ownBlock = some g → w'.heap[g]? = w.heap[g]?) : w'.ownsRow B e size v n xs := by
 refine ⟨h.1, ?_⟩
 rcases h.2 with q | ⟨g, cap, cur, rfl, hb, hg, r⟩
 ·exact Or.inl q
 ·exact Or.inr ⟨g, cap, cur, rfl, hb, (k g rfl).trans hg, r⟩
theorem Own.same {w w' : World} : ∀ {lo hi : Nat} {x : It} {vb vi : Value}, Own w lo hi x vb vi → (∀ k, lo ≤ k → k < hi → w'.heap[k]? = w.heap[k]?) → Own w' lo hi x vb vi := by
 intro lo hi x vb vi h
 induction h with
 | str hb hlt ok hl => exact fun k => .str (own_same hb (fun g hg => k g (hb.lt g hg).1 (hlt g hg))) hlt ok hl
 | lst ys s t row hlt hl hn h1 h2 h3 h4 hb hr ih =>
  intro k
  refine .lst ys s t (own_same row (fun g hg => k g (row.lt g hg).1 (hlt g hg))) hlt hl hn h1 h2 h3 h4 hb (fun i x y hx hy => ih i x y hx hy (fun q q1 q2 => ?_))
  have hi := (List.getElem?_eq_some_iff.1 hx).1
  have := h1 i hi
  have := h3 i hi
  exact k q (by omega) (by omega)
theorem Own.wide {w : World} {lo hi lo' hi' : Nat} {x : It} {vb vi : Value} (h : Own w lo hi x vb vi) (h1 : lo' ≤ lo) (h2 : hi ≤ hi') : Own w lo' hi' x vb vi := by
 cases h with
 | str hb hlt ok hl => exact .str (own_rebase hb (fun g hg => by have := (hb.lt g hg).1; omega)) (fun q hq => by have := hlt q hq; omega) ok hl
 | lst ys s t row hlt hl hn h1' h2' h3 h4 hb hr =>
  exact .lst ys s t (own_rebase row (fun g hg => by have := (row.lt g hg).1; omega)) (fun q hq => by have := hlt q hq; omega) hl hn (fun i hi => by have := h1' i hi; omega) h2' (fun i hi => by have := h3 i hi; omega) h4 hb hr
theorem Own.keep {w w' : World} {lo hi : Nat} {x : It} {vb vi : Value} (h : Own w lo hi x vb vi) (k : Below w.heap.size w w') (hh : hi ≤ w.heap.size) : Own w' lo hi x vb vi := h.same (fun q _ q2 => k.block q (by omega))
theorem vb_of_own {w : World} {B n : Nat} {v : Value} {s : List Nat} (h : w.ownsRow B 5 1 v n (bv s)) (hn : s.length = n) (ok : ∀ x ∈ s, x < 256) (hl : n ≤ 140737488351232) : Vb w v s := by
 subst hn
 have st : Str w (fun _ => True) v s := ⟨own_base h, fun _ _ => trivial, ⟨by omega, ok⟩⟩
 obtain ⟨a, g, c, e, hc, hv, _⟩ := st.view
 refine ⟨a, g, 0, c, e, hv, hc, fun ha => ?_, hl⟩
 subst ha
 rcases h.2 with ⟨e2, _⟩ | ⟨g', cap, cur, e2, _⟩
 ·rw [e] at e2
  injection e2
 ·rw [e] at e2
  injection e2 with e2
  cases e2
theorem Own.lies {w : World} : ∀ {lo hi : Nat} {x : It} {vb vi : Value}, Own w lo hi x vb vi → Lies Vb w x vb vi := by
 intro lo hi x vb vi h
 induction h with
 | str hb hlt ok hl => exact Its.shut (xs := []) (a := none) (blk := 0) (off := 0) (c := 0) ⟨fun h => by simp at h, by simp, fun i x hx => by simp at hx⟩ (vb_of_own hb rfl ok (by omega))
 | @lst lo hi xs vi ys s t row hlt hl hn h1 h2 h3 h4 hb hr ih =>
  obtain ⟨a, c, e⟩ := own_slice row
  subst e
  have hA : 0 < xs.length → ∃ g, a = some ⟨g, 0, none⟩ := fun h0 => by
   rcases row.2 with ⟨_, q⟩ | ⟨g, cap, cur, e, _⟩
   ·omega
   ·injection e with e
    exact ⟨g, e⟩
  have hnil : Vb w (.slice none 0 0) [] := vb_of_own (B := 0) (n := 0) ⟨rfl, Or.inl ⟨rfl, rfl⟩⟩ rfl (by simp) (by omega)
  by_cases h0 : xs.length = 0
  ·exact Its.shut (blk := 0) (off := 0) ⟨fun h => by omega, by omega, fun i x hx => by have := (List.getElem?_eq_some_iff.1 hx).1; omega⟩ hnil
  ·obtain ⟨g, rfl⟩ := hA (by omega)
   refine Its.shut (blk := g) (off := 0) ⟨fun _ => rfl, by omega, fun i x hx => ?_⟩ hnil
   have hi := (List.getElem?_eq_some_iff.1 hx).1
   obtain ⟨y, hy⟩ : ∃ y, ys[i]? = some y := ⟨_, List.getElem?_eq_getElem (by omega)⟩
   obtain ⟨k1, k2, k3⟩ := fl_at hy
   have hL := ih i x y hx hy
   obtain ⟨a1, n1, c1, a2, n2, c2, e1, e2⟩ := hL.form
   have c1' := row.cells (g := g) rfl _ _ k1
   have c2' := row.cells (g := g) rfl _ _ k2
   have c3' := row.cells (g := g) rfl _ _ k3
   rw [add_flat] at c1' c2' c3'
   refine ⟨a1, n1, c1, a2, n2, c2, ?_, ?_, ?_, ?_⟩
   ·rw [Nat.zero_add, c1', hb i x y hx hy]
   ·rw [Nat.zero_add, c2', e1]
   ·rw [Nat.zero_add, c3', e2]
   ·rw [← e1, ← e2]; exact hL
theorem Own.zero (w : World) (lo hi : Nat) : Own w lo hi (.mk false [] []) (.slice none 0 0) (.slice none 0 0) := .str ⟨rfl, Or.inl ⟨rfl, rfl⟩⟩ (fun q hq => by cases hq) (by simp) (by simp)
set_option maxRecDepth 100000 in
set_option maxHeartbeats 1600000 in
theorem clone_any (w : World) (p : Addr) (b off c : Nat) (s : List Nat) (hv : Vw w (some p) b off s) (hl : s.length ≤ 140737488351232) :
  Calls Tryz.prog 26 #[.slice (some p) s.length c] w fun e w' => ∃ v, e = .returned v ∧ w'.ownsRow w.heap.size 5 1 v s.length (bv s) ∧ Below w.heap.size w w' ∧ ∀ q, v.ownBlock = some q → q < w'.heap.size := by
 have q22 : ∀ (w : World) (a : Option Addr) (n c n' c' : Nat), (binOp .eql 33 (.slice a n c) (.slice none n' c')).run Tryz.prog w = .ok (.bool a.isNone) w := fun w a n c n' c' => Lib.run_eql_slice_nil w _ _ a n c n' c' Tryz.underlying33
 have own0 := World.ownsRow_lit (base := w.heap.size) (e := 5) (size := 1) w #[] 0 (Nat.le_refl _) (by decide) rfl
 have v0 : Vw (w.alloc (.cells #[] 5)) (some p) b off s := hv.below (below_alloc w _)
 have HV0 : Hid (Vw (w.alloc (.cells #[] 5)) (some p) b off s) := v0
 clear hv v0
 go_enter Tryz.func26, Tryz.ntmps26
 go_wp2_with (refine wpList_append_bytes (by rfl) (.tmp 5) (.tmp 6) (by rfl) w.heap.size _ 0 [] (by rfl) own0 (some p) b off s.length c _ (by rfl) HV0.out (fun h => by cases h) (by omega) (by simp) ?_)
 intro v1 w1 own1 gr1 nn1
 have b1 : Below w.heap.size w w1 := (below_alloc w _).trans (grown_below gr1 own0 (Nat.le_refl _) (by simp))
 have own2 : w1.ownsRow w.heap.size 5 1 v1 s.length (bv s) := by rw [← vals_bv s]; simpa using own1
 have HZ : Hid (w1.ownsRow w.heap.size 5 1 v1 s.length (bv s) ∧ Below w.heap.size w w1) := ⟨own2, b1⟩
 clear own0 own1 own2 gr1 nn1 b1 HV0
 go_wp2_with fail
 go_ret
 exact ⟨v1, rfl, HZ.out.1, HZ.out.2, fun q hq => (HZ.out.1.lt q hq).2⟩
open Go.RowKit
theorem info25s : (Tryz.prog.info? 87).map (·.size) = some 3 := by kernel_rfl
theorem range3 {w : World} {g o : Nat} {x y z : Value} (h0 : w.cell? ⟨g, o, none⟩ = some x) (h1 : w.cell? ⟨g, o + 1, none⟩ = some y) (h2 : w.cell? ⟨g, o + 2, none⟩ = some z) : w.rangeAt g o [x, y, z] := by
 intro j v hj
 match j, hj with
 | 0, hj => simp at hj; subst hj; exact h0
 | 1, hj => simp at hj; subst hj; exact h1
 | 2, hj => simp at hj; subst hj; exact h2
theorem loadVar25 {w : World} {g : Nat} {x y z : Value} (h0 : w.cell? ⟨g, 0, none⟩ = some x) (h1 : w.cell? ⟨g, 1, none⟩ = some y) (h2 : w.cell? ⟨g, 2, none⟩ = some z) : (loadVar 87 ⟨g, 0, none⟩).run Tryz.prog w = .ok (.agg #[x, y, z]) w :=
 run_loadVar_mid w g 0 87 [x, y, z] _ (range3 h0 h1 h2) Tryz.underlying87 rfl info25s
theorem res2 {fn : Func} {p t : Tmp} {ty : TypeId} (h : fn.results = #[.cell p ty, .tmp t]) (tmps : Array Value) (w : World) (g : Nat) (v u : Value)
  (hp : tmps.getD p undef = .pointer (some ⟨g, 0, none⟩)) (ht : tmps.getD t undef = u) (hl : (loadVar ty ⟨g, 0, none⟩).run Tryz.prog w = .ok v w) :
  (results fn tmps).run Tryz.prog w = .ok (.tuple #[v, u]) w := by
 have hp' : tmps[p]?.getD undef = .pointer (some ⟨g, 0, none⟩) := by simpa using hp
 have ht' : tmps[t]?.getD undef = u := by simpa using ht
 simp [results, h, hp', ht', asAddr, hl]
abbrev set3 (w : World) (g : Nat) (x y z : Value) : World := ((w.setCell ⟨g, 0, none⟩ x).setCell ⟨g, 1, none⟩ y).setCell ⟨g, 2, none⟩ z
theorem set3_cells {w : World} {g : Nat} {x y z x' y' z' : Value} (h0 : w.cell? ⟨g, 0, none⟩ = some x') (h1 : w.cell? ⟨g, 1, none⟩ = some y') (h2 : w.cell? ⟨g, 2, none⟩ = some z') :
  (set3 w g x y z).cell? ⟨g, 0, none⟩ = some x ∧ (set3 w g x y z).cell? ⟨g, 1, none⟩ = some y ∧ (set3 w g x y z).cell? ⟨g, 2, none⟩ = some z := by
 unfold set3
 refine ⟨?_, ?_, ?_⟩
 ·rw [World.cell?_setCell_other _ _ _ _ (by simp), World.cell?_setCell_other _ _ _ _ (by simp), World.cell?_setCell_same _ _ _ h0]
 ·rw [World.cell?_setCell_other _ _ _ _ (by simp), World.cell?_setCell_same _ _ _ ((World.cell?_setCell_other _ _ _ _ (by simp)).trans h1)]
 ·rw [World.cell?_setCell_same _ _ _ ((World.cell?_setCell_other _ _ _ _ (by simp)).trans ((World.cell?_setCell_other _ _ _ _ (by simp)).trans h2))]
theorem set3_turn (w : World) (g : Nat) (x y z : Value) : Turn (fun i => i = g) w (set3 w g x y z) :=
 ((Turn.setCell (F := fun i => i = g) w ⟨g, 0, none⟩ x rfl).trans (Turn.setCell (F := fun i => i = g) _ ⟨g, 1, none⟩ y rfl) (fun _ q => Or.inl q)).trans (Turn.setCell (F := fun i => i = g) _ ⟨g, 2, none⟩ z rfl) (fun _ q => Or.inl q)
theorem set3_size (w : World) (g : Nat) (x y z : Value) : (set3 w g x y z).heap.size = w.heap.size := by simp
theorem Own.turn {F : Nat → Prop} {w w' : World} {lo hi : Nat} {x : It} {vb vi : Value} (h : Own w lo hi x vb vi) (k : Turn F w w') (hF : ∀ i, lo ≤ i → i < hi → ¬ F i) (hh : hi ≤ w.heap.size) : Own w' lo hi x vb vi := h.same (fun q q1 q2 => k.block q (by omega) (hF q q1 q2))
end Go.Proofs.YtcnhinnpieehoaaGreatDoor.Nz
