import Derived.Test.YtpiinkfcaoaffaaDe2zz
/-
  Items in memory with the blocks that they lie in; refItem.
-/
namespace Go.Proofs.Ytpiinkfcaoaffaa
open Go.RowKit
/-- bytes in a block of P's -/
def Vf (P : Nat → Prop) (w : World) (v : Value) (s : List Nat) : Prop := ∃ a b off c, v = .slice a s.length c ∧ Vw w a b off s ∧ s.length ≤ c ∧ (a = none → c = 0) ∧ s.length ≤ 140737488351232 ∧ (0 < s.length → P b)
theorem Vf.vb {P : Nat → Prop} {w : World} {v : Value} {s : List Nat} (h : Vf P w v s) : Vb w v s := by
  obtain ⟨a, b, off, c, h1, h2, h3, h4, h5, -⟩ := h
  exact ⟨a, b, off, c, h1, h2, h3, h4, h5⟩
theorem Vf.same {P : Nat → Prop} {w w' : World} {v : Value} {s : List Nat} (h : Vf P w v s) (k : ∀ i, P i → i < w.heap.size → w'.heap[i]? = w.heap[i]?) : Vf P w' v s := by
  obtain ⟨a, b, off, c, h1, h2, h3, h4, h5, h6⟩ := h
  exact ⟨a, b, off, c, h1, ⟨h2.at_, fun i hi => (World.cell?_of_block (w := w) (k b (h6 (by omega)) (h2.lt (by omega)))).trans (h2.cell i hi), h2.bd, h2.len⟩, h3, h4, h5, h6⟩
theorem Vf.mono {P Q : Nat → Prop} {w : World} {v : Value} {s : List Nat} (h : Vf P w v s) (k : ∀ i, P i → i < w.heap.size → Q i) : Vf Q w v s := by
  obtain ⟨a, b, off, c, h1, h2, h3, h4, h5, h6⟩ := h
  exact ⟨a, b, off, c, h1, h2, h3, h4, h5, fun h0 => k b (h6 h0) (h2.lt h0)⟩
theorem vf_of_own {P : Nat → Prop} {w : World} {B : Nat} {v : Value} {s : List Nat} (h : w.ownsRow B 5 1 v s.length (bv s)) (ok : ∀ x ∈ s, x < 256) (hl : s.length ≤ 140737488351232) (hP : ∀ q, v.ownBlock = some q → P q) : Vf P w v s := by
  have st : Str w P v s := ⟨own_base h, hP, ⟨by omega, ok⟩⟩
  obtain ⟨a, g, c, e, hc, hv, hf⟩ := st.view
  refine ⟨a, g, 0, c, e, hv, hc, fun ha => ?_, hl, fun h0 => (hf h0).1⟩
  subst ha
  rcases h.2 with ⟨e2, _⟩ | ⟨g', cap, cur, e2, _⟩
  · rw [e] at e2
    injection e2
  · rw [e] at e2
    injection e2 with e2
    cases e2
/-- AN ITEM THAT LIES IN BLOCKS OF P's -/
inductive Lf (P : Nat → Prop) (w : World) : It → Value → Value → Prop
  | mk {l : Bool} {b : List Nat} {xs : List It} {vb : Value} (a : Option Addr) (blk off c : Nat) (f g : Nat → Value) (hb : Vf P w vb b) (ha : 0 < xs.length → a = some ⟨blk, off, none⟩) (hP : 0 < xs.length → P blk) (hn : 56 * xs.length ≤ 140737488351232)
      (hc : ∀ i x, xs[i]? = some x → w.cell? ⟨blk, off + i * 3, none⟩ = some (.bool x.l) ∧ w.cell? ⟨blk, off + i * 3 + 1, none⟩ = some (f i) ∧ w.cell? ⟨blk, off + i * 3 + 2, none⟩ = some (g i))
      (hr : ∀ i x, xs[i]? = some x → Lf P w x (f i) (g i)) : Lf P w (.mk l b xs) vb (.slice a xs.length c)
theorem Lf.lies {P : Nat → Prop} {w : World} : ∀ {x : It} {vb vi : Value}, Lf P w x vb vi → Lies Vb w x vb vi := by
  intro x vb vi h
  induction h with
  | mk a blk off c f g hb ha hP hn hc hr ih => exact .mk a blk off c f g hb.vb ha hn hc ih
theorem Lf.same {P : Nat → Prop} {w w' : World} (k : ∀ i, P i → i < w.heap.size → w'.heap[i]? = w.heap[i]?) : ∀ {x : It} {vb vi : Value}, Lf P w x vb vi → Lf P w' x vb vi := by
  intro x vb vi h
  induction h with
  | @mk l b xs vb a blk off c f g hb ha hP hn hc hr ih =>
    refine .mk a blk off c f g (hb.same k) ha hP hn (fun i x hx => ?_) ih
    obtain ⟨h1, h2, h3⟩ := hc i x hx
    have hi := (List.getElem?_eq_some_iff.1 hx).1
    have e := k blk (hP (by omega)) (World.block_lt_of_cell? _ _ h1)
    exact ⟨(World.cell?_of_block (w := w) e).trans h1, (World.cell?_of_block (w := w) e).trans h2, (World.cell?_of_block (w := w) e).trans h3⟩
theorem Lf.mono {P Q : Nat → Prop} {w : World} (k : ∀ i, P i → i < w.heap.size → Q i) : ∀ {x : It} {vb vi : Value}, Lf P w x vb vi → Lf Q w x vb vi := by
  intro x vb vi h
  induction h with
  | @mk l b xs vb a blk off c f g hb ha hP hn hc hr ih =>
    refine .mk a blk off c f g (hb.mono k) ha (fun h0 => ?_) hn hc ih
    obtain ⟨h1, -⟩ := hc 0 _ (List.getElem?_eq_getElem h0)
    exact k blk (hP h0) (World.block_lt_of_cell? _ _ h1)
theorem lf_str {P : Nat → Prop} {w : World} {v : Value} {s : List Nat} (h : Vf P w v s) : Lf P w (.mk false s []) v (.slice none 0 0) :=
  .mk (xs := []) none 0 0 0 (fun _ => .bool true) (fun _ => .bool true) h (fun h => by simp at h) (fun h => by simp at h) (by simp) (fun i x hx => by simp at hx) (fun i x hx => by simp at hx)
theorem vf_nil (P : Nat → Prop) (w : World) : Vf P w (.slice none 0 0) [] := ⟨none, 0, 0, 0, rfl, ⟨fun h => by simp at h, fun i hi => by simp at hi, fun i hi => by simp at hi, by simp⟩, by simp, fun _ => rfl, by simp, fun h => by simp at h⟩
/-- a list made of a row -/
theorem lf_list {P : Nat → Prop} {w : World} {B : Nat} {v : Value} {xs : List It} {ys : List (Bool × Value × Value)} (row : w.ownsRow B 51 3 v xs.length (fl ys)) (hl : ys.length = xs.length) (hn : 56 * xs.length ≤ 140737488351232) (hP : ∀ q, v.ownBlock = some q → P q)
    (hb : ∀ (i : Nat) (x : It) (y : Bool × Value × Value), xs[i]? = some x → ys[i]? = some y → y.1 = x.l) (hr : ∀ (i : Nat) (x : It) (y : Bool × Value × Value), xs[i]? = some x → ys[i]? = some y → Lf P w x y.2.1 y.2.2) : Lf P w (.mk true [] xs) (.slice none 0 0) v := by
  obtain ⟨a, c, e⟩ := own_slice row
  subst e
  by_cases h0 : xs.length = 0
  · exact .mk a 0 0 c (fun _ => .bool true) (fun _ => .bool true) (vf_nil P w) (fun h => by omega) (fun h => by omega) hn (fun i x hx => by have := (List.getElem?_eq_some_iff.1 hx).1; omega) (fun i x hx => by have := (List.getElem?_eq_some_iff.1 hx).1; omega)
  · have hA : ∃ g, a = some ⟨g, 0, none⟩ := by
      rcases row.2 with ⟨_, q⟩ | ⟨g, cap, cur, e, _⟩
      · omega
      · injection e with e
        exact ⟨g, e⟩
    obtain ⟨g, rfl⟩ := hA
    refine .mk (some ⟨g, 0, none⟩) g 0 c (fun i => (ys.getD i (true, .bool true, .bool true)).2.1) (fun i => (ys.getD i (true, .bool true, .bool true)).2.2) (vf_nil P w) (fun _ => rfl) (fun _ => hP g rfl) hn (fun i x hx => ?_) (fun i x hx => ?_)
    · have hi := (List.getElem?_eq_some_iff.1 hx).1
      obtain ⟨y, hy⟩ : ∃ y, ys[i]? = some y := ⟨_, List.getElem?_eq_getElem (by omega)⟩
      obtain ⟨k1, k2, k3⟩ := fl_at hy
      have c1' := row.cells (g := g) rfl _ _ k1
      have c2' := row.cells (g := g) rfl _ _ k2
      have c3' := row.cells (g := g) rfl _ _ k3
      rw [add_flat] at c1' c2' c3'
      have eg : ys.getD i (true, .bool true, .bool true) = y := by rw [List.getD_eq_getElem?_getD, hy]; rfl
      rw [Nat.zero_add]
      simp only [eg]
      exact ⟨by rw [c1', hb i x y hx hy], c2', c3'⟩
    · have hi := (List.getElem?_eq_some_iff.1 hx).1
      obtain ⟨y, hy⟩ : ∃ y, ys[i]? = some y := ⟨_, List.getElem?_eq_getElem (by omega)⟩
      have eg : ys.getD i (true, .bool true, .bool true) = y := by rw [List.getD_eq_getElem?_getD, hy]; rfl
      simp only [eg]
      exact hr i x y hx hy
theorem Own.lf {w : World} : ∀ {lo hi : Nat} {x : It} {vb vi : Value}, Own w lo hi x vb vi → Lf (fun k => lo ≤ k ∧ k < hi) w x vb vi := by
  intro lo hi x vb vi h
  induction h with
  | str hb hlt ok hl => exact lf_str (vf_of_own hb ok (by omega) (fun q hq => ⟨(hb.lt q hq).1, hlt q hq⟩))
  | @lst lo hi xs vi ys s t row hlt hl hn h1 h2 h3 h4 hb hr ih =>
    exact lf_list row hl (by omega) (fun q hq => ⟨(row.lt q hq).1, hlt q hq⟩) hb (fun i x y hx hy => (ih i x y hx hy).mono (fun k hk _ => by
      have hi := (List.getElem?_eq_some_iff.1 hx).1
      have := h1 i hi
      have := h3 i hi
      exact ⟨by omega, by omega⟩))
/-- what refItem answers -/
def RitPst (r : Rf) (w : World) (e : Ending) (w' : World) : Prop := ∃ vb vi, e = .returned (iv (rIt r).l vb vi) ∧ Lf (fun k => w.heap.size ≤ k ∧ k < w'.heap.size) w' (rIt r) vb vi ∧ Below w.heap.size w w'
theorem rIt_no {r : Rf} (h1 : r.k ≠ 1) (h2 : r.k ≠ 2) : rIt r = .mk false [] [] := by unfold rIt; rw [if_neg h1, if_neg h2]
theorem ritem_bx {w w1 : World} {cs : Array Value} {t : TypeId} (b1 : Below ((w.alloc (.cells cs t)).alloc (.cells #[.bool false, .slice none 0 0, .slice none 0 0] 51)).heap.size ((w.alloc (.cells cs t)).alloc (.cells #[.bool false, .slice none 0 0, .slice none 0 0] 51)) w1) (o : Obj) : Bx (w1.alloc o) (w.heap.size + 1) 51 (.bool false) (.slice none 0 0) (.slice none 0 0) := by
  have q := b1.size
  rw [World.size_alloc, World.size_alloc] at q
  have := heap_alloc_new (w.alloc (.cells cs t)) (.cells #[.bool false, .slice none 0 0, .slice none 0 0] 51)
  rw [World.size_alloc] at this
  show _ = _
  rw [heap_alloc_old _ _ (by omega), b1.block _ (by rw [World.size_alloc, World.size_alloc]; omega)]
  exact this
set_option maxRecDepth 100000 in
set_option maxHeartbeats 1600000 in
theorem refItem_any {w : World} {r : Rf} {v : Value} (hW : r.W) (hb : Vb w v r.b) : Calls Try.prog 31 #[.agg (rcs r v).toArray] w (RitPst r w) := by
  have hh := hW.1
  have rg := rng_keep (rng_ref_new w r v 26) (below_alloc (w.alloc (.cells (rcs r v).toArray 26)) (.cells #[.bool false, .slice none 0 0, .slice none 0 0] 51))
  obtain ⟨c0, c1, c2⟩ := rng_ref hh rg
  rw [Nat.zero_add] at c1 c2
  have B2 : Below w.heap.size w ((w.alloc (.cells (rcs r v).toArray 26)).alloc (.cells #[.bool false, .slice none 0 0, .slice none 0 0] 51)) := (below_alloc _ _).alloc (by simp) _
  have HB : Hid (Below w.heap.size w ((w.alloc (.cells (rcs r v).toArray 26)).alloc (.cells #[.bool false, .slice none 0 0, .slice none 0 0] 51)) ∧ ((w.alloc (.cells (rcs r v).toArray 26)).alloc (.cells #[.bool false, .slice none 0 0, .slice none 0 0] 51)).heap.size = w.heap.size + 2) := ⟨B2, by simp⟩
  by_cases k1 : r.k = 1
  · rw [k1] at c0
    have HK : Hid (rIt r = .mk false r.h []) := by show _ = _; unfold rIt; rw [if_pos k1]
    have HC : Hid (((w.alloc (.cells (rcs r v).toArray 26)).alloc (.cells #[.bool false, .slice none 0 0, .slice none 0 0] 51)).rangeAt w.heap.size 1 (bv r.h) ∧ r.W) := ⟨c1, hW⟩
    clear k1 hb
    go_enter Try.func31, Try.ntmps31
    go_wp2_with fail
    have bx : Bx ((w.alloc (.cells (rcs r v).toArray 26)).alloc (.cells #[.bool false, .slice (some ⟨w.heap.size, 1, none⟩) 32 32, .slice none 0 0] 51)) (w.heap.size + 1) 51 (.bool false) (.slice (some ⟨w.heap.size, 1, none⟩) 32 32) (.slice none 0 0) := by
      have := heap_alloc_new (w.alloc (.cells (rcs r v).toArray 26)) (.cells #[.bool false, .slice (some ⟨w.heap.size, 1, none⟩) 32 32, .slice none 0 0] 51)
      rw [World.size_alloc] at this
      exact this
    obtain ⟨y0, y1, y2, -⟩ := bx.cells
    refine bodyPost_ret (res1 rfl _ _ (w.heap.size + 1) _ rfl (loadVar25 y0 y1 y2)) rfl ?_
    refine ⟨_, _, by rw [HK.out]; rfl, ?_, (below_alloc _ _).alloc (by simp) _⟩
    rw [HK.out]
    refine lf_str ⟨some ⟨w.heap.size, 1, none⟩, w.heap.size, 1, 32, by rw [HC.out.2.1], ⟨fun _ => rfl, fun i hi => ?_, fun i hi => by have := gd_lt HC.out.2.2.1 i; omega, by rw [HC.out.2.1]; omega⟩, by rw [HC.out.2.1]; omega, (fun h => by cases h), by rw [HC.out.2.1]; omega, fun _ => ⟨by omega, by rw [World.size_alloc, World.size_alloc]; omega⟩⟩
    have q := HC.out.1 i _ (bv_at hi)
    rw [World.cell?_alloc_lt _ _ _ (by simp)] at q ⊢
    exact q
  · have j1 : (r.k == 1) = false := by simpa using k1
    by_cases k2 : r.k = 2
    · rw [k2] at c0
      have HK : Hid (rIt r = decX r.b) := by show _ = _; unfold rIt; rw [if_neg k1, if_pos k2]; rfl
      obtain ⟨a, b, off, c, rfl, hv, hc, -, hl⟩ := hb
      have K := decode_any _ a b off c r.b (hv.below B2) hc (by omega)
      clear k1 k2 j1 hv hc
      unfold DecPost at K
      obtain ⟨xl, exl⟩ : ∃ d, d = (decX r.b).l := ⟨_, rfl⟩
      obtain ⟨de, ede⟩ : ∃ d, d = decE r.b := ⟨_, rfl⟩
      obtain ⟨dp', edp⟩ : ∃ d, d = decP r.b := ⟨_, rfl⟩
      rw [← ede, ← edp, ← exl] at K
      have HL : Hid (xl = (decX r.b).l) := exl
      clear ede edp exl
      go_enter Try.func31, Try.ntmps31
      go_wp2_with (go_at_call 18; refine K.mono ?_; rintro e' w1 ⟨vb, vi, rfl, ho, b1⟩; obtain ⟨a1, n1, k1, a2, n2, k2, rfl, rfl⟩ := ho.lies.form; have HO : Hid (Own w1 ((w.alloc (.cells (rcs r (.slice a r.b.length c)).toArray 26)).alloc (.cells #[.bool false, .slice none 0 0, .slice none 0 0] 51)).heap.size w1.heap.size (decX r.b) (.slice a1 n1 k1) (.slice a2 n2 k2) ∧ Below ((w.alloc (.cells (rcs r (.slice a r.b.length c)).toArray 26)).alloc (.cells #[.bool false, .slice none 0 0, .slice none 0 0] 51)).heap.size ((w.alloc (.cells (rcs r (.slice a r.b.length c)).toArray 26)).alloc (.cells #[.bool false, .slice none 0 0, .slice none 0 0] 51)) w1) := ⟨ho, b1⟩; have bx := ritem_bx b1 (.cells #[.bool xl, .slice a1 n1 k1, .slice a2 n2 k2] 51); obtain ⟨y0, y1, y2, yf⟩ := bx.cells; have f0 := yf 0; have f1 := yf 1; have f2 := yf 2; have HBX : Hid (Bx (w1.alloc (.cells #[.bool xl, .slice a1 n1 k1, .slice a2 n2 k2] 51)) (w.heap.size + 1) 51 (.bool false) (.slice none 0 0) (.slice none 0 0)) := bx; clear b1 ho K bx yf)
      have b3 := HBX.out.set3 (x' := .bool xl) (y' := .slice a1 n1 k1) (z' := .slice a2 n2 k2)
      have t3 := set3_turn (w1.alloc (.cells #[.bool xl, .slice a1 n1 k1, .slice a2 n2 k2] 51)) (w.heap.size + 1) (.bool xl) (.slice a1 n1 k1) (.slice a2 n2 k2)
      obtain ⟨z0, z1, z2, -⟩ := b3.cells
      refine bodyPost_ret (res1 rfl _ _ (w.heap.size + 1) _ rfl (loadVar25 z0 z1 z2)) rfl ?_
      have bb : Below w.heap.size w (w1.alloc (.cells #[.bool xl, .slice a1 n1 k1, .slice a2 n2 k2] 51)) := ch (ch HB.out.1 HO.out.2) (below_alloc _ _)
      have sz := HB.out.2
      refine ⟨.slice a1 n1 k1, .slice a2 n2 k2, by rw [HK.out, ← HL.out], ?_, bb.trans (t3.below (fun i q => by omega) bb.size)⟩
      rw [HK.out]
      refine (Lf.same (fun i hi _ => ?_) HO.out.1.lf).mono (fun i hi _ => ⟨by omega, by rw [set3_size, World.size_alloc]; omega⟩)
      rw [t3.block i (by rw [World.size_alloc]; omega) (by omega), heap_alloc_old _ _ hi.2]
    · have j2 : (r.k == 2) = false := by simpa using k2
      have HK : Hid (rIt r = .mk false [] []) := rIt_no k1 k2
      clear hb
      go_enter Try.func31, Try.ntmps31
      go_wp2_with fail
      have bx : Bx ((w.alloc (.cells (rcs r v).toArray 26)).alloc (.cells #[.bool false, .slice none 0 0, .slice none 0 0] 51)) (w.heap.size + 1) 51 (.bool false) (.slice none 0 0) (.slice none 0 0) := by
        have := heap_alloc_new (w.alloc (.cells (rcs r v).toArray 26)) (.cells #[.bool false, .slice none 0 0, .slice none 0 0] 51)
        rw [World.size_alloc] at this
        exact this
      obtain ⟨y0, y1, y2, -⟩ := bx.cells
      refine bodyPost_ret (res1 rfl _ _ (w.heap.size + 1) _ rfl (loadVar25 y0 y1 y2)) rfl ?_
      refine ⟨_, _, by rw [HK.out]; rfl, ?_, HB.out.1⟩
      rw [HK.out]
      exact lf_str (vf_nil _ _)
end Go.Proofs.Ytpiinkfcaoaffaa
