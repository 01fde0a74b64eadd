import Derived.Test.YtpiinkfcaoaffaaLfzz
/-
  itemOf: leaf and extension.
-/
namespace Go.Proofs.Ytpiinkfcaoaffaa
open Go.RowKit
theorem vb_vf {w : World} {v : Value} {s : List Nat} (h : Vb w v s) : Vf (fun k => k < w.heap.size) w v s := by
  obtain ⟨a, b, off, c, h1, h2, h3, h4, h5⟩ := h
  exact ⟨a, b, off, c, h1, h2, h3, h4, h5, fun h0 => h2.lt h0⟩
theorem Vf.keep {P : Nat → Prop} {w w' : World} {v : Value} {s : List Nat} (h : Vf P w v s) (k : Below w.heap.size w w') : Vf P w' v s := h.same (fun i _ hi => k.block i hi)
theorem Lf.keep {P : Nat → Prop} {w w' : World} {x : It} {vb vi : Value} (h : Lf P w x vb vi) (k : Below w.heap.size w w') : Lf P w' x vb vi := h.same (fun i _ hi => k.block i hi)
/-- what itemOf answers -/
def IoPst (n : Nd) (w : World) (e : Ending) (w' : World) : Prop := ∃ vb vi, e = .returned (iv (nIt n).l vb vi) ∧ Lies Vb w' (nIt n) vb vi ∧ Below w.heap.size w w'
/-- a list of two -/
theorem lf_two {P : Nat → Prop} {w : World} {g c : Nat} {fr : Nat × Nat} {x y : It} {v1 v2 u1 u2 : Value} (hg : w.heap[g]? = some (.cells #[.bool x.l, v1, v2, .bool y.l, u1, u2] 51 fr)) (hP : P g) (hx : Lf P w x v1 v2) (hy : Lf P w y u1 u2) :
    Lf P w (.mk true [] [x, y]) (.slice none 0 0) (.slice (some ⟨g, 0, none⟩) 2 c) := by
  have cc : ∀ j, w.cell? ⟨g, j, none⟩ = #[.bool x.l, v1, v2, .bool y.l, u1, u2][j]? := fun j => cell_of_row _ _ _ _ _ _ hg
  refine .mk (xs := [x, y]) (some ⟨g, 0, none⟩) g 0 c (fun i => if i = 0 then v1 else u1) (fun i => if i = 0 then v2 else u2) (vf_nil P w) (fun _ => rfl) (fun _ => hP) (by simp) (fun i z hz => ?_) (fun i z hz => ?_)
  · match i, hz with
    | 0, hz => simp at hz; subst hz; exact ⟨cc 0, cc 1, cc 2⟩
    | 1, hz => simp at hz; subst hz; exact ⟨cc 3, cc 4, cc 5⟩
    | i + 2, hz => simp at hz
  · match i, hz with
    | 0, hz => simp at hz; subst hz; exact hx
    | 1, hz => simp at hz; subst hz; exact hy
    | i + 2, hz => simp at hz
set_option maxRecDepth 100000 in
set_option maxHeartbeats 3200000 in
theorem itemOf_path {w : World} {n : Nd} {u : Nv} (h : Nin w n u) (hk : n.k = 1 ∨ n.k = 2) : Calls Try.prog 17 #[.agg (nc n u).toArray] w (IoPst n w) := by
  obtain ⟨W0, eW0⟩ : ∃ W, W = w.alloc (.cells (nc n u).toArray 29) := ⟨_, rfl⟩
  obtain ⟨W1, eW1⟩ : ∃ W, W = W0.alloc (.cells #[.bool false, .slice none 0 0, .slice none 0 0] 51) := ⟨_, rfl⟩
  have B0 : Below w.heap.size w W0 := by rw [eW0]; exact below_alloc _ _
  have B1 : Below w.heap.size w W1 := by rw [eW1]; exact ch B0 (below_alloc _ _)
  have s1 : W1.heap.size = w.heap.size + 2 := by rw [eW1, eW0]; simp
  have nb : Nb W1 w.heap.size n u := by rw [eW1]; exact (by rw [eW0]; exact nb_new h.W w u : Nb W0 w.heap.size n u).keep (below_alloc _ _)
  have bx1 : Bx W1 (w.heap.size + 1) 51 (.bool false) (.slice none 0 0) (.slice none 0 0) := by
    have := heap_alloc_new W0 (.cells #[.bool false, .slice none 0 0, .slice none 0 0] 51)
    rw [← eW1, show W0.heap.size = w.heap.size + 1 by rw [eW0]; simp] at this
    exact this
  have K1 := refItem_any h.W.next (Rel.keep h.x B1)
  have hh := h.W.next.1
  have cx := nb.x
  obtain ⟨el, eel⟩ : ∃ l, l = (rIt n.next).l := ⟨_, rfl⟩
  unfold RitPst at K1
  rw [← eel] at K1
  have HEL : Hid (el = (rIt n.next).l) := eel
  have HW : Hid (W0 = w.alloc (.cells (nc n u).toArray 29) ∧ W1 = W0.alloc (.cells #[.bool false, .slice none 0 0, .slice none 0 0] 51)) := ⟨eW0, eW1⟩
  have HH : Hid (Nin w n u ∧ Below w.heap.size w W1 ∧ W1.heap.size = w.heap.size + 2 ∧ Nb W1 w.heap.size n u ∧ Bx W1 (w.heap.size + 1) 51 (.bool false) (.slice none 0 0) (.slice none 0 0)) := ⟨h, B1, s1, nb, bx1⟩
  have HNB : Hid (∀ {w' : World}, Below W1.heap.size W1 w' → Nb w' w.heap.size n u) := fun k => HH.out.2.2.2.1.keep k
  have HBX : Hid (∀ {w' : World}, Below W1.heap.size W1 w' → Bx w' (w.heap.size + 1) 51 (.bool false) (.slice none 0 0) (.slice none 0 0)) := fun k => HH.out.2.2.2.2.keep (k.block _ (by have := HH.out.2.2.1; omega))
  obtain ⟨av, bv', ov, cv, ev, -, -, -, hlv⟩ := h.v
  clear h B0 B1 s1 bx1 eel eW0 eW1 nb
  rcases hk with k1 | k2
  · have HK : Hid (nIt n = .mk true [] [.mk false (pkR true n.path) [], .mk false n.val []]) := by show _ = _; unfold nIt; rw [if_pos k1]
    have KP : Hid (∀ {w' : World}, Below W1.heap.size W1 w' → Calls Try.prog 32 #[u.p, .bool true] w' fun e w'' => ∃ q, e = .returned (.tuple #[q, .int .i64 ((pkE n.path : Nat) : Int)]) ∧ Ans w' w'' q (pkR true n.path)) := fun k => pack_vb true (Rel.keep HH.out.1.p (ch HH.out.2.1 k))
    have EV : Hid (u.v = .slice av n.val.length cv) := ev
    have HK1 : Hid (n.k = 1) := k1
    clear ev k1
    go_enter Try.func17, Try.ntmps17
    go_upto_region 1 with (fail)
    rw [← HW.out.1, ← HW.out.2]
    go_wp2_with (first
      | refine wpList_ld26 (by kernel_rfl) _ (by rfl) _ _ _ _ hh cx (by rfl) ?_
      | (go_at_call 31; refine K1.mono ?_; rintro e w2 ⟨vb, vi, rfl, lf, b2⟩; obtain ⟨a1, n1, k1, a2, n2, k2, rfl, rfl⟩ := lf.lies.form; have HL : Hid (Below W1.heap.size W1 w2 ∧ Lf (fun k => W1.heap.size ≤ k ∧ k < w2.heap.size) w2 (rIt n.next) (.slice a1 n1 k1) (.slice a2 n2 k2)) := ⟨b2, lf⟩; have nb2 := HNB.out (ch b2 (below_alloc w2 (.cells #[.bool el, .slice a1 n1 k1, .slice a2 n2 k2] 51))); have ck := nb2.k; have cv2 := nb2.v; rw [EV.out] at cv2; rw [HK1.out] at ck; have B3 : Below W1.heap.size W1 (w2.alloc (.cells #[.bool false, .slice av n.val.length cv, .slice none 0 0] 51)) := ch b2 (below_alloc _ _); have HB3 : Hid (Below W1.heap.size W1 (w2.alloc (.cells #[.bool false, .slice av n.val.length cv, .slice none 0 0] 51))) := B3; have cp := (HNB.out B3).p; have KPP := KP.out B3; clear lf b2 K1 nb2 B3)
      | (go_at_call 32; refine KPP.mono ?_; rintro e w4 ⟨q, rfl, ans⟩; obtain ⟨aw, cw, rfl⟩ := ans.form; obtain ⟨e0, e1, e2⟩ := box_keep ans.below; have HA : Hid (Ans (w2.alloc (.cells #[.bool false, .slice av n.val.length cv, .slice none 0 0] 51)) w4 (.slice aw (pkR true n.path).length cw) (pkR true n.path)) := ans; have bx5 := HBX.out (ch (ch HB3.out ans.below) (below_alloc w4 (.cells #[.bool false, .slice aw (pkR true n.path).length cw, .slice none 0 0, .bool false, .slice av n.val.length cv, .slice none 0 0] 51))); obtain ⟨y0, y1, y2, yf⟩ := bx5.cells; have f0 := yf 0; have f1 := yf 1; have f2 := yf 2; have HBX5 : Hid (Bx (w4.alloc (.cells #[.bool false, .slice aw (pkR true n.path).length cw, .slice none 0 0, .bool false, .slice av n.val.length cv, .slice none 0 0] 51)) (w.heap.size + 1) 51 (.bool false) (.slice none 0 0) (.slice none 0 0)) := bx5; clear ans KPP bx5 yf))
    have b6 := HBX5.out.set3 (x' := .bool true) (y' := .slice none 0 0) (z' := .slice (some ⟨w4.heap.size, 0, none⟩) 2 2)
    have t6 := set3_turn (w4.alloc (.cells #[.bool false, .slice aw (pkR true n.path).length cw, .slice none 0 0, .bool false, .slice av n.val.length cv, .slice none 0 0] 51)) (w.heap.size + 1) (.bool true) (.slice none 0 0) (.slice (some ⟨w4.heap.size, 0, none⟩) 2 2)
    obtain ⟨z0, z1, z2, -⟩ := b6.cells
    refine bodyPost_ret (res1 rfl _ _ (w.heap.size + 1) _ rfl (loadVar25 z0 z1 z2)) rfl ?_
    have sz := HH.out.2.2.1
    have b14 := ch HB3.out HA.out.below
    have b4 : Below w.heap.size w w4 := ch HH.out.2.1 b14
    have b5 : Below w.heap.size w (w4.alloc (.cells #[.bool false, .slice aw (pkR true n.path).length cw, .slice none 0 0, .bool false, .slice av n.val.length cv, .slice none 0 0] 51)) := ch b4 (below_alloc _ _)
    have s4 := b14.size
    refine ⟨_, _, by rw [HK.out]; rfl, ?_, b5.trans (t6.below (fun i q => by omega) b5.size)⟩
    rw [HK.out]
    have low : Lf (fun k => k ≠ w.heap.size + 1 ∧ k ≠ w4.heap.size) w4 (.mk false (pkR true n.path) []) (.slice aw (pkR true n.path).length cw) (.slice none 0 0) := by
      have ho := HA.out.own
      refine lf_str (vf_of_own ho HA.out.byt HA.out.len (fun q hq => ?_))
      have l1 := ho.lt q hq
      have l0 := HB3.out.size
      exact ⟨by omega, by omega⟩
    have loe : Lf (fun k => k ≠ w.heap.size + 1 ∧ k ≠ w4.heap.size) w4 (.mk false n.val []) (.slice av n.val.length cv) (.slice none 0 0) := by
      have q := vb_vf HH.out.1.v
      rw [EV.out] at q
      refine lf_str ((q.keep b4).mono (fun k hk _ => ⟨by omega, ?_⟩))
      have := b4.size
      omega
    refine Lf.lies (P := fun k => k ≠ w.heap.size + 1) ?_
    refine Lf.same (w := w4.alloc (.cells #[.bool false, .slice aw (pkR true n.path).length cw, .slice none 0 0, .bool false, .slice av n.val.length cv, .slice none 0 0] 51)) (fun i hi hl => t6.block i hl hi) ?_
    refine lf_two (g := w4.heap.size) (fr := (0, 0)) (x := .mk false (pkR true n.path) []) (y := (.mk false n.val [])) ?_ (by omega) ((low.keep (below_alloc _ _)).mono (fun k hk _ => hk.1)) ((loe.keep (below_alloc _ _)).mono (fun k hk _ => hk.1))
    exact heap_alloc_new _ _
  · have HK : Hid (nIt n = .mk true [] [.mk false (pkR false n.path) [], rIt n.next]) := by show _ = _; unfold nIt; rw [if_neg (by omega), if_pos k2]
    have KP : Hid (∀ {w' : World}, Below W1.heap.size W1 w' → Calls Try.prog 32 #[u.p, .bool false] w' fun e w'' => ∃ q, e = .returned (.tuple #[q, .int .i64 ((pkE n.path : Nat) : Int)]) ∧ Ans w' w'' q (pkR false n.path)) := fun k => pack_vb false (Rel.keep HH.out.1.p (ch HH.out.2.1 k))
    have HK1 : Hid (n.k = 2) := k2
    clear ev k2
    go_enter Try.func17, Try.ntmps17
    go_upto_region 1 with (fail)
    rw [← HW.out.1, ← HW.out.2]
    go_wp2_with (first
      | refine wpList_ld26 (by kernel_rfl) _ (by rfl) _ _ _ _ hh cx (by rfl) ?_
      | (go_at_call 31; refine K1.mono ?_; rintro e w2 ⟨vb, vi, rfl, lf, b2⟩; obtain ⟨a1, n1, k1, a2, n2, k2, rfl, rfl⟩ := lf.lies.form; have HL : Hid (Below W1.heap.size W1 w2 ∧ Lf (fun k => W1.heap.size ≤ k ∧ k < w2.heap.size) w2 (rIt n.next) (.slice a1 n1 k1) (.slice a2 n2 k2)) := ⟨b2, lf⟩; have nb2 := HNB.out (ch b2 (below_alloc w2 (.cells #[.bool el, .slice a1 n1 k1, .slice a2 n2 k2] 51))); have ck := nb2.k; rw [HK1.out] at ck; have B3 : Below W1.heap.size W1 (w2.alloc (.cells #[.bool el, .slice a1 n1 k1, .slice a2 n2 k2] 51)) := ch b2 (below_alloc _ _); have HB3 : Hid (Below W1.heap.size W1 (w2.alloc (.cells #[.bool el, .slice a1 n1 k1, .slice a2 n2 k2] 51))) := B3; have cp := (HNB.out B3).p; have KPP := KP.out B3; clear lf b2 K1 nb2 B3)
      | (go_at_call 32; refine KPP.mono ?_; rintro e w4 ⟨q, rfl, ans⟩; obtain ⟨aw, cw, rfl⟩ := ans.form; obtain ⟨e0, e1, e2⟩ := box_keep ans.below; have HA : Hid (Ans (w2.alloc (.cells #[.bool el, .slice a1 n1 k1, .slice a2 n2 k2] 51)) w4 (.slice aw (pkR false n.path).length cw) (pkR false n.path)) := ans; have bx5 := HBX.out (ch (ch HB3.out ans.below) (below_alloc w4 (.cells #[.bool false, .slice aw (pkR false n.path).length cw, .slice none 0 0, .bool el, .slice a1 n1 k1, .slice a2 n2 k2] 51))); obtain ⟨y0, y1, y2, yf⟩ := bx5.cells; have f0 := yf 0; have f1 := yf 1; have f2 := yf 2; have HBX5 : Hid (Bx (w4.alloc (.cells #[.bool false, .slice aw (pkR false n.path).length cw, .slice none 0 0, .bool el, .slice a1 n1 k1, .slice a2 n2 k2] 51)) (w.heap.size + 1) 51 (.bool false) (.slice none 0 0) (.slice none 0 0)) := bx5; clear ans KPP bx5 yf))
    have b6 := HBX5.out.set3 (x' := .bool true) (y' := .slice none 0 0) (z' := .slice (some ⟨w4.heap.size, 0, none⟩) 2 2)
    have t6 := set3_turn (w4.alloc (.cells #[.bool false, .slice aw (pkR false n.path).length cw, .slice none 0 0, .bool el, .slice a1 n1 k1, .slice a2 n2 k2] 51)) (w.heap.size + 1) (.bool true) (.slice none 0 0) (.slice (some ⟨w4.heap.size, 0, none⟩) 2 2)
    obtain ⟨z0, z1, z2, -⟩ := b6.cells
    refine bodyPost_ret (res1 rfl _ _ (w.heap.size + 1) _ rfl (loadVar25 z0 z1 z2)) rfl ?_
    have sz := HH.out.2.2.1
    have b14 := ch HB3.out HA.out.below
    have b4 : Below w.heap.size w w4 := ch HH.out.2.1 b14
    have b5 : Below w.heap.size w (w4.alloc (.cells #[.bool false, .slice aw (pkR false n.path).length cw, .slice none 0 0, .bool el, .slice a1 n1 k1, .slice a2 n2 k2] 51)) := ch b4 (below_alloc _ _)
    have s4 := b14.size
    refine ⟨_, _, by rw [HK.out]; rfl, ?_, b5.trans (t6.below (fun i q => by omega) b5.size)⟩
    rw [HK.out]
    have low : Lf (fun k => k ≠ w.heap.size + 1 ∧ k ≠ w4.heap.size) w4 (.mk false (pkR false n.path) []) (.slice aw (pkR false n.path).length cw) (.slice none 0 0) := by
      have ho := HA.out.own
      refine lf_str (vf_of_own ho HA.out.byt HA.out.len (fun q hq => ?_))
      have l1 := ho.lt q hq
      have l0 := HB3.out.size
      exact ⟨by omega, by omega⟩
    have loe : Lf (fun k => k ≠ w.heap.size + 1 ∧ k ≠ w4.heap.size) w4 (rIt n.next) (.slice a1 n1 k1) (.slice a2 n2 k2) := by
      refine (HL.out.2.keep (ch (below_alloc _ _) HA.out.below)).mono (fun k hk _ => ⟨by omega, ?_⟩)
      have l1 := HA.out.below.size
      rw [World.size_alloc] at l1
      omega
    refine Lf.lies (P := fun k => k ≠ w.heap.size + 1) ?_
    refine Lf.same (w := w4.alloc (.cells #[.bool false, .slice aw (pkR false n.path).length cw, .slice none 0 0, .bool el, .slice a1 n1 k1, .slice a2 n2 k2] 51)) (fun i hi hl => t6.block i hl hi) ?_
    refine lf_two (g := w4.heap.size) (fr := (0, 0)) (x := .mk false (pkR false n.path) []) (y := (rIt n.next)) ?_ (by omega) ((low.keep (below_alloc _ _)).mono (fun k hk _ => hk.1)) ((loe.keep (below_alloc _ _)).mono (fun k hk _ => hk.1))
    rw [← HEL.out]; exact heap_alloc_new _ _
end Go.Proofs.Ytpiinkfcaoaffaa
