import Derived.Test.YtcnhinnpieehoaaGreatDoorNReszz
namespace Go.Proofs.YtcnhinnpieehoaaGreatDoor.Nz
open Go.RowKit
def ItemPost (s : List Nat) (d p e : Nat) (w : World) (r : Ending) (w' : World) : Prop :=
 Below w.heap.size w w' ∧ match rd s d p e with
  | .ok x z => ∃ vb vi, r = .returned (.tuple #[iv x.l vb vi, .int .i64 z]) ∧ Own w' w.heap.size w'.heap.size x vb vi
  | .bad q c => r = .panicked [flt q c]
set_option maxRecDepth 100000 in
set_option maxHeartbeats 1600000 in
theorem readItem_any (d : Nat) (hd : d ≤ 80) (KL : ∀ (w : World) (a : Option Addr) (b off e c p : Nat) (s : List Nat), Vp w a b off e c s → p < e → ¬ gd s p < 192 →
   Calls Tryz.prog 101 #[.slice a e c, .int .i64 p, .int .i64 ((80 - d : Nat) : Int)] w (ItemPost s d p e w))
  (w : World) (a : Option Addr) (b off e c p : Nat) (s : List Nat) (hv : Vp w a b off e c s) (hp : p ≤ e) :
  Calls Tryz.prog 69 #[.slice a e c, .int .i64 p, .int .i64 ((80 - d : Nat) : Int)] w (ItemPost s d p e w) := by
 have he : e ≤ 1048576 := by have := hv.len; have := hv.small; omega
 obtain ⟨dd, edd⟩ : ∃ dd, dd = 80 - d := ⟨_, rfl⟩
 rw [← edd] at KL ⊢
 have hdd : dd ≤ 80 := by omega
 by_cases h0 : p = e
 ·have er : ∀ r w', ItemPost s d p e w r w' = (Below w.heap.size w w' ∧ r = .panicked [flt p 50]) := fun r w' => by unfold ItemPost; rw [rd_eq, if_pos h0]
  subst h0
  refine Calls.mono (R := fun r w' => r = .panicked [flt p 50] ∧ Below w.heap.size w w') ?_ (fun r w' h => by rw [er]; exact ⟨h.2, h.1⟩)
  clear er KL hv edd hd
  have KG := fun w => giveUp_any w p 50
  go_enter Tryz.func69, Tryz.ntmps69
  go_wp2_with (go_at_call 70; refine (KG _).mono ?_; rintro e w' ⟨rfl, rfl⟩)
  exact ⟨rfl, rfl, below_alloc _ _⟩
 ·obtain ⟨rfl, c0, hx⟩ := hv.cell (i := p) (by omega)
  have hbw : b < w.heap.size := World.block_lt_of_cell? _ _ c0
  replace c0 := ((below_alloc w (.cells #[.bool false, .slice none 0 0, .slice none 0 0] 87)).cell (p := ⟨b, off + p, none⟩) hbw).trans c0
  by_cases h1 : gd s p < 128
  ·have er : ∀ r w', ItemPost s d p e w r w' = (Below w.heap.size w w' ∧ ∃ vb vi, r = .returned (.tuple #[iv false vb vi, .int .i64 ((p + 1 : Nat) : Int)]) ∧ Own w' w.heap.size w'.heap.size (.mk false [gd s p] []) vb vi) := fun r w' => by unfold ItemPost; rw [rd_eq, if_neg h0, if_pos h1]; rfl
   generalize gd s p = x at *
   have HER : Hid (∀ r w', ItemPost s d p e w r w' = (Below w.heap.size w w' ∧ ∃ vb vi, r = .returned (.tuple #[iv false vb vi, .int .i64 ((p + 1 : Nat) : Int)]) ∧ Own w' w.heap.size w'.heap.size (.mk false [x] []) vb vi)) := er
   have i0 : ¬ (p : Int) = e := by omega
   have i1 : (x : Int) < 128 := by omega
   have i2 : p < e := by omega
   clear er KL hv edd hd
   go_enter Tryz.func69, Tryz.ntmps69
   go_wp2_with fail
   refine bodyPost_ret (res2 rfl _ _ w.heap.size _ _ rfl rfl (loadVar25 (x := .bool false) (y := .slice (some ⟨w.heap.size + 1, 0, none⟩) 1 1) (z := .slice none 0 0) (by simp) (by simp) (by simp))) rfl ?_
   rw [HER.out]
   refine ⟨(below_alloc _ _).alloc (by simp) _, _, _, rfl, .str ?_ ?_ (by simpa using hx) (by simp)⟩
   ·have := World.ownsRow_lit (base := w.heap.size) (e := 5) (size := 1) (w.alloc (.cells #[.bool false, .slice (some ⟨w.heap.size + 1, 0, none⟩) 1 1, .slice none 0 0] 87)) #[.int .u8 x] 1 (by simp) (by decide) rfl
    simpa [bv] using this
   ·intro q hq
    have : q = w.heap.size + 1 := (Option.some.inj hq).symm
    simp
    omega
  ·have i0 : ¬ (p : Int) = e := by omega
   have i1 : ¬ ((gd s p : Nat) : Int) < 128 := by omega
   have i3 : p < e := by omega
   obtain ⟨w1, ew1⟩ : ∃ w1, w1 = w.alloc (.cells #[.bool false, .slice none 0 0, .slice none 0 0] 87) := ⟨_, rfl⟩
   have b1 : Below w.heap.size w w1 := by rw [ew1]; exact below_alloc _ _
   have s1 : w1.heap.size = w.heap.size + 1 := by rw [ew1]; simp
   have hv1 := hv.keep b1
   have HBX : Hid (∀ wr, Below w1.heap.size w1 wr → (wr.cell? ⟨w.heap.size, 0, none⟩ = some (.bool false) ∧ wr.cell? ⟨w.heap.size, 1, none⟩ = some (.slice none 0 0) ∧ wr.cell? ⟨w.heap.size, 2, none⟩ = some (.slice none 0 0)) ∧ ∀ j, wr.frozen? ⟨w.heap.size, j, none⟩ = false) := fun wr h => by
    rw [ew1] at h
    refine ⟨box_keep h, fun j => ?_⟩
    rw [h.frozen (p := ⟨w.heap.size, j, none⟩) (by simp)]
    simp
   have HB1 : Hid (Below w.heap.size w w1 ∧ w1.heap.size = w.heap.size + 1 ∧ w1 = w.alloc (.cells #[.bool false, .slice none 0 0, .slice none 0 0] 87)) := ⟨b1, s1, ew1⟩
   by_cases h2 : gd s p < 192
   ·have i2 : ((gd s p : Nat) : Int) < 192 := by omega
    have K := readHead_any w1 _ _ _ _ _ p 128 (gd s p - 128) s hv1 i3 (by omega) (by omega)
    cases hh : rdHead s p e (gd s p - 128) with
    | bad q =>
     have HR : Hid (rd s d p e = .bad p q) := by
      show _ = _
      rw [rd_eq, if_neg h0, if_neg h1, if_pos h2, hh]
     rw [hh] at K
     generalize hgx : gd s p = x at *
     clear hgx KL hv hv1 edd hd s1 b1 hbw ew1 hh
     go_enter Tryz.func69, Tryz.ntmps69
     go_wp2_with fail
     rw [← HB1.out.2.2]
     refine K.mono ?_
     rintro r w2 ⟨rfl, rfl⟩
     go_wp2_with fail
     exact ⟨rfl, by unfold ItemPost; rw [HR.out]; exact ⟨HB1.out.1, rfl⟩⟩
    | ok A Z =>
     obtain ⟨k1, k2, k3, k4, -⟩ := rdHead_ok (base := 128) hv.ok hv.len i3 (by omega) (by omega) hh
     rw [hh] at K
     have hcl : (cut s A Z).length = Z - A := cut_len (by have := hv.len; omega)
     have hcap := hv.cap
     have sb := slice_both (some ⟨b, off, none⟩) e c A Z k2 (by omega)
     have hcut := hv1.cut (l := A) (z := Z) k2 k3
     have KA := alone_any w1 _ _ _ (c - A) _ hcut
     rw [hcl] at KA
     have ea : alone (cut s A Z) = decide (Z = A + 1 ∧ gd s A < 128) := by
      unfold alone
      rw [hcl]
      by_cases q : Z - A = 1
      ·rw [cut_gd (by omega), Nat.add_zero, decide_eq_true q]
       simp [show Z = A + 1 by omega]
      ·rw [decide_eq_false q]
       simp
       omega
     have hbh : ∃ pp, behind (some ⟨b, off, none⟩) c A = some pp := by
      unfold behind
      split
      ·exact ⟨_, rfl⟩
      ·exact ⟨_, rfl⟩
     obtain ⟨pp, ebh⟩ := hbh
     rw [ebh] at sb KA hcut
     rw [ea] at KA
     by_cases h4 : Z = A + 1 ∧ gd s A < 128
     ·have HR : Hid (rd s d p e = .bad p 52) := by
       show _ = _
       rw [rd_eq, if_neg h0, if_neg h1, if_pos h2, hh]
       dsimp only
       rw [if_pos h4]
      rw [decide_eq_true h4] at KA
      have KG := fun w => giveUp_any w p 52
      generalize hgx : gd s p = x at *
      clear hgx KL hv hv1 edd hd s1 b1 hbw ew1 hh hcut ea ebh hcl h4
      go_enter Tryz.func69, Tryz.ntmps69
      go_wp2_with fail
      rw [← HB1.out.2.2]
      refine K.mono ?_
      rintro r w2 ⟨rfl, rfl⟩
      go_wp2_with (first | (go_at_call 90; refine KA.mono ?_; rintro e w' ⟨rfl, rfl⟩) | (go_at_call 70; refine (KG _).mono ?_; rintro e w' ⟨rfl, rfl⟩))
      exact ⟨rfl, by unfold ItemPost; rw [HR.out]; exact ⟨HB1.out.1, rfl⟩⟩
     ·have HR : Hid (rd s d p e = .ok (.mk false (cut s A Z) []) Z) := by
       show _ = _
       rw [rd_eq, if_neg h0, if_neg h1, if_pos h2, hh]
       dsimp only
       rw [if_neg h4]
      rw [decide_eq_false h4] at KA
      have KC := clone_any w1 pp _ _ (c - A) _ hcut (by rw [hcl]; omega)
      have HO : Hid ((∀ x ∈ cut s A Z, x < 256) ∧ (cut s A Z).length = Z - A ∧ Z - A ≤ 1048576) := ⟨fun x hx => hv.ok x (cut_mem hx), hcl, by omega⟩
      rw [hcl] at KC
      generalize hgx : gd s p = x at *
      clear hgx KL hv hv1 edd hd s1 b1 hbw ew1 hh hcut ea ebh hcl h4
      go_enter Tryz.func69, Tryz.ntmps69
      go_wp2_with fail
      rw [← HB1.out.2.2]
      refine K.mono ?_
      rintro r w2 ⟨rfl, rfl⟩
      go_wp2_with (go_at_call 90; refine KA.mono ?_; rintro e w' ⟨rfl, rfl⟩)
      refine KC.mono ?_
      rintro r w3 ⟨v, rfl, own3, hb3, hlt3⟩
      obtain ⟨⟨x0, x1, x2⟩, xf⟩ := HBX.out w3 hb3
      have f0 := xf 0
      have f1 := xf 1
      have f2 := xf 2
      obtain ⟨av, cv, ev⟩ := own_slice own3
      subst ev
      have HZ : Hid (w3.ownsRow w'.heap.size 5 1 (.slice av (Z - A) cv) (Z - A) (bv (cut s A Z)) ∧ Below w'.heap.size w' w3 ∧ ∀ q, (Value.slice av (Z - A) cv).ownBlock = some q → q < w3.heap.size) := ⟨own3, hb3, hlt3⟩
      clear own3 hb3 hlt3 xf
      go_wp2_with fail
      refine bodyPost_ret (res2 rfl _ _ w.heap.size _ _ rfl rfl (loadVar25 (set3_cells x0 x1 x2).1 (set3_cells x0 x1 x2).2.1 (set3_cells x0 x1 x2).2.2)) rfl ?_
      have t3 := set3_turn w3 w.heap.size (.bool false) (.slice av (Z - A) cv) (.slice none 0 0)
      have z1 := HB1.out.2.1
      have z2 := HZ.out.2.1.size
      unfold ItemPost
      rw [HR.out]
      refine ⟨(ch HB1.out.1 HZ.out.2.1).trans (t3.below (fun i q => by omega) (by omega)), _, _, rfl, ?_⟩
      have ho : Own w3 w'.heap.size w3.heap.size (.mk false (cut s A Z) []) (.slice av (Z - A) cv) (.slice none 0 0) := .str (by rw [HO.out.2.1]; exact HZ.out.1) HZ.out.2.2 HO.out.1 (by rw [HO.out.2.1]; exact HO.out.2.2)
      exact (ho.turn t3 (fun i q1 q2 => by omega) (Nat.le_refl _)).wide (by omega) (by simp)
   ·have i2 : ¬ ((gd s p : Nat) : Int) < 192 := by omega
    have K := KL w1 _ _ _ _ _ _ s hv1 i3 h2
    have er : ∀ r w', ItemPost s d p e w1 r w' → Below w1.heap.size w1 w' ∧ match rd s d p e with
      | .ok x z => ∃ vb vi, r = .returned (.tuple #[iv x.l vb vi, .int .i64 z]) ∧ Own w' w1.heap.size w'.heap.size x vb vi
      | .bad q c => r = .panicked [flt q c] := fun r w' h => h
    generalize hgx : gd s p = x at *
    clear hgx KL hv hv1 edd hd s1 b1 hbw ew1
    cases hrd : rd s d p e with
    | bad q cd =>
     have HR : Hid (rd s d p e = .bad q cd) := hrd
     rw [hrd] at er
     clear hrd
     go_enter Tryz.func69, Tryz.ntmps69
     go_wp2_with fail
     rw [← HB1.out.2.2]
     refine K.mono ?_
     intro r w2 hr
     obtain ⟨hb2, rfl⟩ := er r w2 hr
     have HZ : Hid (Below w.heap.size w w2) := ch HB1.out.1 hb2
     clear hr hb2
     go_wp2_with fail
     exact ⟨rfl, by unfold ItemPost; rw [HR.out]; exact ⟨HZ.out, rfl⟩⟩
    | ok y z =>
     have HR : Hid (rd s d p e = .ok y z) := hrd
     rw [hrd] at er
     clear hrd
     go_enter Tryz.func69, Tryz.ntmps69
     go_wp2_with fail
     rw [← HB1.out.2.2]
     refine K.mono ?_
     intro r w2 hr
     obtain ⟨hb2, vb, vi, rfl, ho⟩ := er r w2 hr
     obtain ⟨a1, n1, k1, a2, n2, k2, rfl, rfl⟩ := ho.lies.form
     obtain ⟨⟨x0, x1, x2⟩, xf⟩ := HBX.out w2 hb2
     have f0 := xf 0
     have f1 := xf 1
     have f2 := xf 2
     have HZ : Hid (Below w1.heap.size w1 w2 ∧ Own w2 w1.heap.size w2.heap.size y (.slice a1 n1 k1) (.slice a2 n2 k2)) := ⟨hb2, ho⟩
     clear hr hb2 ho xf
     go_wp2_with fail
     refine bodyPost_ret (res2 rfl _ _ w.heap.size _ _ rfl rfl (loadVar25 (set3_cells x0 x1 x2).1 (set3_cells x0 x1 x2).2.1 (set3_cells x0 x1 x2).2.2)) rfl ?_
     have t3 := set3_turn w2 w.heap.size (.bool y.l) (.slice a1 n1 k1) (.slice a2 n2 k2)
     have z1 := HB1.out.2.1
     have z2 := HZ.out.1.size
     unfold ItemPost
     rw [HR.out]
     refine ⟨(ch HB1.out.1 HZ.out.1).trans (t3.below (fun i q => by omega) (by omega)), _, _, rfl, ?_⟩
     exact (HZ.out.2.turn t3 (fun i q1 q2 => by omega) (Nat.le_refl _)).wide (by omega) (by simp)
open Go.RowKit
theorem infoIt : (Tryz.prog.info? 87).map (fun i => (i.zero, i.size, i.bytes)) = some (some (.agg #[.bool false, .slice none 0 0, .slice none 0 0]), 3, 56) := by kernel_rfl
abbrev Bx (w : World) (g : Nat) (t : TypeId) (x y z : Value) : Prop := w.heap[g]? = some (.cells #[x, y, z] t (0, 0))
theorem Bx.cells {w : World} {g : Nat} {t : TypeId} {x y z : Value} (h : Bx w g t x y z) : w.cell? ⟨g, 0, none⟩ = some x ∧ w.cell? ⟨g, 1, none⟩ = some y ∧ w.cell? ⟨g, 2, none⟩ = some z ∧ ∀ j, w.frozen? ⟨g, j, none⟩ = false := by
 have q : ∀ j, w.cell? ⟨g, j, none⟩ = #[x, y, z][j]? := fun j => cell_of_row _ _ _ _ _ _ h
 have r : w.rowIs g t 3 (fun i => (#[x, y, z] : Array Value).getD i x) := ⟨_, h, rfl, fun i hi => by
  show _ = some ((#[x, y, z] : Array Value).getD i x)
  rw [Array.getD_eq_getD_getElem?, Array.getElem?_eq_getElem (by simpa using hi)]
  rfl⟩
 exact ⟨q 0, q 1, q 2, fun j => r.frozen j⟩
theorem Bx.lt {w : World} {g : Nat} {t : TypeId} {x y z : Value} (h : Bx w g t x y z) : g < w.heap.size := (Array.getElem?_eq_some_iff.1 h).1
theorem Bx.keep {w w' : World} {g : Nat} {t : TypeId} {x y z : Value} (h : Bx w g t x y z) (k : w'.heap[g]? = w.heap[g]?) : Bx w' g t x y z := k.trans h
theorem Bx.set2 {w : World} {g : Nat} {t : TypeId} {x y z z' : Value} (h : Bx w g t x y z) : Bx (w.setCell ⟨g, 2, none⟩ z') g t x y z' := by
 have hl := h.lt
 simp only [Bx, World.setCell, Array.getElem?_modify, if_true] at h ⊢
 rw [h]
 rfl
theorem Bx.set3 {w : World} {g : Nat} {t : TypeId} {x y z x' y' z' : Value} (h : Bx w g t x y z) : Bx (set3 w g x' y' z') g t x' y' z' := by
 have hl := h.lt
 simp only [Bx, Go.Proofs.YtcnhinnpieehoaaGreatDoor.Nz.set3, World.setCell, Array.getElem?_modify, if_true] at h ⊢
 rw [h]
 rfl
structure Rl (w wr : World) (v : Value) (xs : List It) (ys : List (Bool × Value × Value)) (s t : Nat → Nat) : Prop where
 own : wr.ownsRow (w.heap.size + 2) 87 3 v xs.length (fl ys)
 len : ys.length = xs.length
 h1 : ∀ i, i < xs.length → w.heap.size + 2 ≤ s i
 h2 : ∀ i, i + 1 < xs.length → t i ≤ s (i + 1)
 h3 : ∀ i, i < xs.length → t i ≤ wr.heap.size
 h4 : ∀ i, i < xs.length → s i ≤ t i
 hb : ∀ (i : Nat) (x : It) (y : Bool × Value × Value), xs[i]? = some x → ys[i]? = some y → y.1 = x.l
 hr : ∀ (i : Nat) (x : It) (y : Bool × Value × Value), xs[i]? = some x → ys[i]? = some y → Own wr (s i) (t i) x y.2.1 y.2.2
 ap : ∀ q, v.ownBlock = some q → ∀ i, i < xs.length → q < s i ∨ t i ≤ q
 below : Below w.heap.size w wr
 res : Bx wr w.heap.size 87 (.bool false) (.slice none 0 0) (.slice none 0 0)
 box : Bx wr (w.heap.size + 1) 87 (.bool true) (.slice none 0 0) v
theorem Rl.size {w wr : World} {v : Value} {xs : List It} {ys : List (Bool × Value × Value)} {s t : Nat → Nat} (h : Rl w wr v xs ys s t) : w.heap.size + 2 ≤ wr.heap.size := by have := h.box.lt; omega
theorem Rl.start {w w2 : World} (hb : Below w.heap.size w w2) (h1 : Bx w2 w.heap.size 87 (.bool false) (.slice none 0 0) (.slice none 0 0)) (h2 : Bx w2 (w.heap.size + 1) 87 (.bool true) (.slice none 0 0) (.slice none 0 0)) :
  Rl w w2 (.slice none 0 0) [] [] (fun _ => 0) (fun _ => 0) :=
 ⟨⟨rfl, Or.inl ⟨rfl, rfl⟩⟩, rfl, fun i hi => by simp at hi, fun i hi => by simp at hi, fun i hi => by simp at hi, fun i hi => by simp at hi, fun i x y hx => by simp at hx, fun i x y hx => by simp at hx, fun q hq => (by cases hq), hb, h1, h2⟩
theorem Rl.next {w wr w2 w5 : World} {v v' vb vi : Value} {xs : List It} {ys : List (Bool × Value × Value)} {s t : Nat → Nat} {y : It} {o o' : Obj} (h : Rl w wr v xs ys s t)
  (b2 : Below (wr.alloc o).heap.size (wr.alloc o) w2) (ho : Own w2 (wr.alloc o).heap.size w2.heap.size y vb vi)
  (own' : w5.ownsRow (w.heap.size + 2) 87 3 v' (xs.length + 1) (fl ys ++ [.bool y.l, vb, vi])) (gr : ((set3 w2 wr.heap.size (.bool y.l) vb vi).alloc o').grownBy w5 v.ownBlock)
  (hg : ∀ g, v'.ownBlock = some g → v.ownBlock = some g ∨ w2.heap.size ≤ g) :
  Rl w (w5.setCell ⟨w.heap.size + 1, 2, none⟩ v') v' (xs ++ [y]) (ys ++ [(y.l, vb, vi)]) (fun i => if i = xs.length then wr.heap.size + 1 else s i) (fun i => if i = xs.length then w2.heap.size else t i) := by
 have z0 := h.size
 have s1 : (wr.alloc o).heap.size = wr.heap.size + 1 := by simp
 rw [s1] at b2 ho
 have z2 := b2.size
 rw [s1] at z2
 have z5 : w2.heap.size + 1 ≤ w5.heap.size := by have := gr.size; simpa using this
 have vlt : ∀ q, v.ownBlock = some q → w.heap.size + 2 ≤ q ∧ q < wr.heap.size := fun q hq => h.own.lt q hq
 have key : ∀ k, k < w2.heap.size → k ≠ wr.heap.size → v.ownBlock ≠ some k → k ≠ w.heap.size + 1 → (w5.setCell ⟨w.heap.size + 1, 2, none⟩ v').heap[k]? = w2.heap[k]? := fun k k1 k2 k3 k4 => by
  rw [Below.heap_setCell _ _ _ _ (fun e => k4 e), gr.block k (by simp; omega) (fun e => k3 e.symm)]
  have e1 : ((set3 w2 wr.heap.size (.bool y.l) vb vi).alloc o').heap[k]? = (set3 w2 wr.heap.size (.bool y.l) vb vi).heap[k]? := heap_alloc_old _ _ (by simp; omega)
  rw [e1]
  exact (set3_turn w2 wr.heap.size (.bool y.l) vb vi).block k k1 k2
 have old : ∀ k, k < wr.heap.size → w2.heap[k]? = wr.heap[k]? := fun k hk => by
  rw [b2.block k (by omega)]
  exact heap_alloc_old _ _ hk
 have n1 : (xs ++ [y]).length = xs.length + 1 := by simp
 refine ⟨?_, by simp [h.len], fun i hi => ?_, fun i hi => ?_, fun i hi => ?_, fun i hi => ?_, fun i x q hx hq => ?_, fun i x q hx hq => ?_, fun q hq i hi => ?_, ?_, ?_, ?_⟩
 ·rw [n1, fl_app]
  refine own_same own' (fun g hg' => ?_)
  exact Below.heap_setCell _ _ _ _ (fun e => by have := (own'.lt g hg').1; simp at e; omega)
 ·rw [n1] at hi
  by_cases e : i = xs.length
  ·simp only [if_pos e]; omega
  ·simp only [if_neg e]; exact h.h1 i (by omega)
 ·rw [n1] at hi
  by_cases e : i + 1 = xs.length
  ·simp only [if_pos e, if_neg (show ¬ i = xs.length by omega)]
   have := h.h3 i (by omega)
   omega
  ·simp only [if_neg e, if_neg (show ¬ i = xs.length by omega)]
   exact h.h2 i (by omega)
 ·rw [n1] at hi
  have e5 : (w5.setCell ⟨w.heap.size + 1, 2, none⟩ v').heap.size = w5.heap.size := by simp
  rw [e5]
  by_cases e : i = xs.length
  ·simp only [if_pos e]; omega
  ·simp only [if_neg e]
   have := h.h3 i (by omega)
   omega
 ·rw [n1] at hi
  by_cases e : i = xs.length
  ·simp only [if_pos e]; omega
  ·simp only [if_neg e]; exact h.h4 i (by omega)
 ·by_cases e : i < xs.length
  ·rw [List.getElem?_append_left e] at hx
   rw [List.getElem?_append_left (by have := h.len; omega)] at hq
   exact h.hb i x q hx hq
  ·have hi := (List.getElem?_eq_some_iff.1 hx).1
   rw [n1] at hi
   have e2 : i = xs.length := by omega
   subst e2
   rw [List.getElem?_append_right (by omega)] at hx
   rw [List.getElem?_append_right (by have := h.len; omega)] at hq
   simp at hx
   simp [h.len] at hq
   subst hx
   subst hq
   rfl
 ·by_cases e : i < xs.length
  ·rw [List.getElem?_append_left e] at hx
   rw [List.getElem?_append_left (by have := h.len; omega)] at hq
   simp only [if_neg (show ¬ i = xs.length by omega)]
   have a1 := h.h1 i e
   have a3 := h.h3 i e
   refine (h.hr i x q hx hq).same (fun k k1 k2 => ?_)
   rw [key k (by omega) (by omega) (fun e2 => by have := h.ap k e2 i e; omega) (by omega), old k (by omega)]
  ·have hi := (List.getElem?_eq_some_iff.1 hx).1
   rw [n1] at hi
   have e2 : i = xs.length := by omega
   subst e2
   rw [List.getElem?_append_right (by omega)] at hx
   rw [List.getElem?_append_right (by have := h.len; omega)] at hq
   simp at hx
   simp [h.len] at hq
   subst hx
   subst hq
   simp only [if_true]
   exact ho.same (fun k k1 k2 => key k k2 (by omega) (fun e2 => by have := (vlt k e2).2; omega) (by omega))
 ·rw [n1] at hi
  rcases hg q hq with hq' | hq'
  ·have := vlt q hq'
   by_cases e : i = xs.length
   ·simp only [if_pos e]; omega
   ·simp only [if_neg e]; exact h.ap q hq' i (by omega)
  ·by_cases e : i = xs.length
   ·simp only [if_pos e]; omega
   ·simp only [if_neg e]
    have := h.h3 i (by omega)
    omega
 ·refine ⟨?_, ?_, ?_, ?_, fun k hk => ?_⟩
  ·exact gr.os.trans (b2.os.trans h.below.os)
  ·exact gr.tape.trans (b2.tape.trans h.below.tape)
  ·exact gr.output.trans (b2.output.trans h.below.output)
  ·have : (w5.setCell ⟨w.heap.size + 1, 2, none⟩ v').heap.size = w5.heap.size := by simp
   omega
  ·rw [key k (by omega) (by omega) (fun e2 => by have := (vlt k e2).1; omega) (by omega), old k (by omega)]
   exact h.below.block k hk
 ·refine h.res.keep ?_
  rw [key _ (by omega) (by omega) (fun e2 => by have := (vlt _ e2).1; omega) (by omega), old _ (by omega)]
 ·have : Bx w5 (w.heap.size + 1) 87 (.bool true) (.slice none 0 0) v := by
   refine h.box.keep ?_
   rw [gr.block _ (by simp; omega) (fun e2 => by have := (vlt _ e2.symm).1; omega)]
   have e1 : ((set3 w2 wr.heap.size (.bool y.l) vb vi).alloc o').heap[w.heap.size + 1]? = (set3 w2 wr.heap.size (.bool y.l) vb vi).heap[w.heap.size + 1]? := heap_alloc_old _ _ (by simp; omega)
   rw [e1, (set3_turn w2 wr.heap.size (.bool y.l) vb vi).block _ (by omega) (by omega), old _ (by omega)]
  exact this.set2
open Go.RowKit
set_option maxRecDepth 100000 in
set_option maxHeartbeats 3200000 in
theorem readList_zero (w : World) (a : Option Addr) (b off e c p : Nat) (s : List Nat) (_hv : Vp w a b off e c s) (hp : p < e) (hg : ¬ gd s p < 192) :
  Calls Tryz.prog 101 #[.slice a e c, .int .i64 p, .int .i64 ((80 - 0 : Nat) : Int)] w (ItemPost s 0 p e w) := by
 have HR : Hid (rd s 0 p e = .bad p 53) := by
  show _ = _
  rw [rd_eq, if_neg (by omega), if_neg (by omega), if_neg hg, if_pos rfl]
 have KG := fun w => giveUp_any w p 53
 have e80 : ((80 - 0 : Nat) : Int) = 80 := by decide
 rw [e80]
 clear _hv hg
 go_enter Tryz.func101, Tryz.ntmps101
 go_wp2_with (go_at_call 70; refine (KG _).mono ?_; rintro e w' ⟨rfl, rfl⟩)
 exact ⟨rfl, by unfold ItemPost; rw [HR.out]; exact ⟨below_alloc _ _, rfl⟩⟩
set_option maxRecDepth 100000 in
set_option maxHeartbeats 3200000 in
theorem readList_succ (d : Nat) (hd : d + 1 ≤ 80) (KI : ∀ (w : World) (a : Option Addr) (b off e c p : Nat) (s : List Nat), Vp w a b off e c s → p ≤ e →
   Calls Tryz.prog 69 #[.slice a e c, .int .i64 p, .int .i64 ((80 - d : Nat) : Int)] w (ItemPost s d p e w))
  (w : World) (a : Option Addr) (b off e c p : Nat) (s : List Nat) (hv : Vp w a b off e c s) (hp : p < e) (hg : ¬ gd s p < 192) :
  Calls Tryz.prog 101 #[.slice a e c, .int .i64 p, .int .i64 ((80 - (d + 1) : Nat) : Int)] w (ItemPost s (d + 1) p e w) := by
 have he : e ≤ 1048576 := by have := hv.len; have := hv.small; omega
 obtain ⟨dd, edd⟩ : ∃ dd, dd = 80 - (d + 1) := ⟨_, rfl⟩
 have hdd : dd < 80 := by omega
 have ed2 : 80 - d = dd + 1 := by omega
 rw [← edd]
 rw [ed2] at KI
 have i0 : ¬ (80 : Int) ≤ (dd : Int) := by omega
 have hb256 := gd_lt hv.ok p
 obtain ⟨w1, ew1⟩ : ∃ w1, w1 = w.alloc (.cells #[.bool false, .slice none 0 0, .slice none 0 0] 87) := ⟨_, rfl⟩
 have b1 : Below w.heap.size w w1 := by rw [ew1]; exact below_alloc _ _
 have hv1 := hv.keep b1
 have K := readHead_any w1 _ _ _ _ _ p 192 (gd s p - 192) s hv1 hp (by omega) (by omega)
 have HB1 : Hid (Below w.heap.size w w1 ∧ w1 = w.alloc (.cells #[.bool false, .slice none 0 0, .slice none 0 0] 87)) := ⟨b1, ew1⟩
 cases hh : rdHead s p e (gd s p - 192) with
 | bad q =>
  have HR : Hid (rd s (d + 1) p e = .bad p q) := by
   show _ = _
   rw [rd_eq, if_neg (by omega), if_neg (by omega), if_neg hg, if_neg (by omega), hh]
  rw [hh] at K
  clear KI hv hv1 edd ed2 hd b1 ew1 hh
  go_enter Tryz.func101, Tryz.ntmps101
  go_wp2_with fail
  rw [← HB1.out.2]
  refine K.mono ?_
  rintro r w2 ⟨rfl, rfl⟩
  go_wp2_with fail
  exact ⟨rfl, by unfold ItemPost; rw [HR.out]; exact ⟨HB1.out.1, rfl⟩⟩
 | ok A Z =>
  obtain ⟨k1, k2, k3, k4, -⟩ := rdHead_ok (base := 192) hv.ok hv.len hp (by omega) (by omega) hh
  have HR : Hid (rd s (d + 1) p e = rdL (rd s d) (Z - A) A Z []) := by
   show _ = _
   rw [rd_eq, if_neg (by omega), if_neg (by omega), if_neg hg, if_neg (by omega), hh]
   rfl
  rw [hh] at K
  have hcap := hv.cap
  have j1 := slice_upto a e c Z (by omega)
  have hvZ := hv.upto k3
  have HV : Hid (Vp w a b off Z c s) := hvZ
  have HRO : Hid (∀ at_ y z, at_ ≤ Z → rd s d at_ Z = .ok y z → at_ < z ∧ z ≤ Z) := fun at_ y z h1 h2 => by
   have := rd_ok hv.ok d at_ Z y z (by have := hv.len; omega) h1 h2
   exact ⟨this.1, this.2.1⟩
  obtain ⟨i25, hi0, hz0, hz1, hz2⟩ := info_parts infoIt
  have HI : Hid (Tryz.prog.info? 87 = some i25 ∧ i25.zero = some (.agg #[.bool false, .slice none 0 0, .slice none 0 0]) ∧ i25.size = 3 ∧ i25.bytes = 56) := ⟨hi0, hz0, hz1, hz2⟩
  have HKI : Hid (∀ (w : World) (a : Option Addr) (b off e c p : Nat) (s : List Nat), Vp w a b off e c s → p ≤ e → Calls Tryz.prog 69 #[.slice a e c, .int .i64 p, .int .i64 ((dd : Int) + 1)] w (ItemPost s d p e w)) := by
   intro w a b off e c p s h1 h2
   have := KI w a b off e c p s h1 h2
   rwa [show ((dd + 1 : Nat) : Int) = (dd : Int) + 1 by omega] at this
  have hsmall : Z ≤ 1048576 := by omega
  clear KI hv hv1 hvZ edd ed2 hd b1 ew1 hh hi0 hz0 hz1 hz2
  go_enter Tryz.func101, Tryz.ntmps101
  go_wp2_with fail
  rw [← HB1.out.2]
  refine K.mono ?_
  rintro r w2 ⟨rfl, rfl⟩
  have b2 : Below w2.heap.size w2 (w2.alloc (.cells #[.bool true, .slice none 0 0, .slice none 0 0] 87)) := below_alloc _ _
  have s2 : w2.heap.size = w.heap.size + 1 := by rw [HB1.out.2]; simp
  have r0 : Rl w (w2.alloc (.cells #[.bool true, .slice none 0 0, .slice none 0 0] 87)) (.slice none 0 0) [] [] (fun _ => 0) (fun _ => 0) := by
   refine Rl.start (ch HB1.out.1 b2) ?_ ?_
   ·show _ = _
    rw [heap_alloc_old _ _ (by omega), HB1.out.2]
    exact heap_alloc_new _ _
   ·have := heap_alloc_new w2 (.cells #[.bool true, .slice none 0 0, .slice none 0 0] 87)
    rw [s2] at this
    exact this
  have HS2 : Hid (w2.heap.size = w.heap.size + 1) := s2
  have HR0 : Hid (Rl w (w2.alloc (.cells #[.bool true, .slice none 0 0, .slice none 0 0] 87)) (.slice none 0 0) [] [] (fun _ => 0) (fun _ => 0)) := r0
  clear b2 r0 s2
  go_wp2_with fail
  rw [HS2.out]
  go_loopg [8] (Z - A) (fun gg u wr => ∃ (at_ n : Nat) (v : Value) (xs : List It) (ys : List (Bool × Value × Value)) (sf tf : Nat → Nat), A + xs.length ≤ at_ ∧ at_ ≤ Z ∧ gg = Z - at_ ∧ Z - at_ ≤ n ∧ u = .int .i64 at_ ∧ rdL (rd s d) (Z - A) A Z [] = rdL (rd s d) n at_ Z xs ∧ Rl w wr v xs ys sf tf)
  case atStart => exact ⟨A, Z - A, _, [], [], _, _, by simp, k2, rfl, Nat.le_refl _, rfl, rfl, HR0.out⟩
  case round =>
   clear HR0
   obtain ⟨at_, n, v, xs, ys, sf, tf, hxa, haz, rfl, hn, rfl, hrl, hR⟩ := hrel
   have HRL : Hid (rdL (rd s d) (Z - A) A Z [] = rdL (rd s d) n at_ Z xs) := hrl
   have HRR : Hid (Rl w wr v xs ys sf tf) := hR
   obtain ⟨av, cv, ev⟩ := own_slice hR.own
   subst ev
   obtain ⟨x0, x1, x2, xf⟩ := hR.box.cells
   have f2 := xf 2
   clear hrl hR xf
   by_cases hin : at_ < Z
   ·have i1 : (at_ : Int) < (Z : Int) := by omega
    obtain ⟨n', rfl⟩ : ∃ n', n = n' + 1 := ⟨n - 1, by omega⟩
    have hbA := below_alloc wr (.cells #[.bool false, .slice none 0 0, .slice none 0 0] 87)
    have KK := HKI.out (wr.alloc (.cells #[.bool false, .slice none 0 0, .slice none 0 0] 87)) a b off Z c at_ s (HV.out.keep (ch HRR.out.below hbA)) haz
    have er : ∀ r w', ItemPost s d at_ Z (wr.alloc (.cells #[.bool false, .slice none 0 0, .slice none 0 0] 87)) r w' → Below (wr.alloc (.cells #[.bool false, .slice none 0 0, .slice none 0 0] 87)).heap.size (wr.alloc (.cells #[.bool false, .slice none 0 0, .slice none 0 0] 87)) w' ∧ match rd s d at_ Z with
      | .ok x z => ∃ vb vi, r = .returned (.tuple #[iv x.l vb vi, .int .i64 z]) ∧ Own w' (wr.alloc (.cells #[.bool false, .slice none 0 0, .slice none 0 0] 87)).heap.size w'.heap.size x vb vi
      | .bad q c => r = .panicked [flt q c] := fun r w' h => h
    have HRS := HRL.out
    rw [rdL, if_pos hin] at HRS
    clear hbA
    cases hrd : rd s d at_ Z with
    | bad q cd =>
     rw [hrd] at er HRS
     have HX : Hid (rd s (d + 1) p e = .bad q cd) := HR.out.trans HRS
     clear hrd HRS
     go_wp2_with fail
     refine KK.mono ?_
     intro r w3 hr
     obtain ⟨hb3, rfl⟩ := er r w3 hr
     have HZ : Hid (Below w.heap.size w w3) := ch (ch HRR.out.below (below_alloc wr _)) hb3
     clear hr hb3
     go_wp2_with fail
     exact ⟨rfl, by unfold ItemPost; rw [HX.out]; exact ⟨HZ.out, rfl⟩⟩
    | ok y z =>
     rw [hrd] at er HRS
     dsimp only at HRS
     have HX : Hid (rdL (rd s d) (Z - A) A Z [] = rdL (rd s d) n' z Z (xs ++ [y])) := HRS
     have hz := HRO.out at_ y z haz hrd
     clear hrd HRS
     go_wp2_with fail
     refine KK.mono ?_
     intro r w3 hr
     obtain ⟨hb3, vb, vi, rfl, ho⟩ := er r w3 hr
     obtain ⟨a1, n1, q1, a2, n2, q2, rfl, rfl⟩ := ho.lies.form
     have hz1 : wr.heap.size < (wr.alloc (.cells #[.bool false, .slice none 0 0, .slice none 0 0] 87)).heap.size := by simp
     have y0 : Bx w3 wr.heap.size 87 (.bool false) (.slice none 0 0) (.slice none 0 0) := (hb3.block _ hz1).trans (heap_alloc_new _ _)
     have xb : Bx w3 (w.heap.size + 1) 87 (.bool true) (.slice none 0 0) (.slice av xs.length cv) := (hb3.block _ (by have := HRR.out.size; omega)).trans ((heap_alloc_old _ _ (by have := HRR.out.size; omega)).trans HRR.out.box)
     obtain ⟨g0, g1, g2, gf⟩ := y0.cells
     have gf0 := gf 0
     have gf1 := gf 1
     have gf2 := gf 2
     have xs3 : Bx (set3 w3 wr.heap.size (.bool y.l) (.slice a1 n1 q1) (.slice a2 n2 q2)) (w.heap.size + 1) 87 (.bool true) (.slice none 0 0) (.slice av xs.length cv) := xb.keep ((set3_turn _ _ _ _ _).block _ xb.lt (by have := HRR.out.size; omega))
     have y3 := y0.set3 (x' := .bool y.l) (y' := .slice a1 n1 q1) (z' := .slice a2 n2 q2)
     obtain ⟨xc0, xc1, xc2, -⟩ := xs3.cells
     obtain ⟨yc0, yc1, yc2, -⟩ := y3.cells
     have HZ : Hid (Below (wr.alloc (.cells #[.bool false, .slice none 0 0, .slice none 0 0] 87)).heap.size (wr.alloc (.cells #[.bool false, .slice none 0 0, .slice none 0 0] 87)) w3 ∧ Own w3 (wr.alloc (.cells #[.bool false, .slice none 0 0, .slice none 0 0] 87)).heap.size w3.heap.size y (.slice a1 n1 q1) (.slice a2 n2 q2)) := ⟨hb3, ho⟩
     have own4 : ((set3 w3 wr.heap.size (.bool y.l) (.slice a1 n1 q1) (.slice a2 n2 q2)).alloc (.cells #[.bool y.l, .slice a1 n1 q1, .slice a2 n2 q2] 87)).ownsRow (w.heap.size + 2) 87 3 (.slice av xs.length cv) xs.length (fl ys) := by
      refine own_same HRR.out.own (fun g hg => ?_)
      have hlt := (HRR.out.own.lt g hg).2
      rw [heap_alloc_old _ _ (by have := hb3.size; simp at this; simp; omega), (set3_turn w3 wr.heap.size (.bool y.l) (.slice a1 n1 q1) (.slice a2 n2 q2)).block g (by have := hb3.size; simp at this; omega) (by omega), hb3.block g (by simp; omega)]
      exact heap_alloc_old _ _ hlt
     have nw := World.news_of_block (w := (set3 w3 wr.heap.size (.bool y.l) (.slice a1 n1 q1) (.slice a2 n2 q2)).alloc (.cells #[.bool y.l, .slice a1 n1 q1, .slice a2 n2 q2] 87)) (B := w3.heap.size) (cs := #[.bool y.l, .slice a1 n1 q1, .slice a2 n2 q2]) (t := 87) (fr := (0, 0)) (by have := heap_alloc_new (set3 w3 wr.heap.size (.bool y.l) (.slice a1 n1 q1) (.slice a2 n2 q2)) (.cells #[.bool y.l, .slice a1 n1 q1, .slice a2 n2 q2] 87); rw [set3_size] at this; exact this)
     have HO4 : Hid (((set3 w3 wr.heap.size (.bool y.l) (.slice a1 n1 q1) (.slice a2 n2 q2)).alloc (.cells #[.bool y.l, .slice a1 n1 q1, .slice a2 n2 q2] 87)).ownsRow (w.heap.size + 2) 87 3 (.slice av xs.length cv) xs.length (fl ys)) := own4
     have HNW : Hid (∀ (j : Nat) (u : Value), #[Value.bool y.l, .slice a1 n1 q1, .slice a2 n2 q2].toList[j]? = some u → ((set3 w3 wr.heap.size (.bool y.l) (.slice a1 n1 q1) (.slice a2 n2 q2)).alloc (.cells #[.bool y.l, .slice a1 n1 q1, .slice a2 n2 q2] 87)).cell? ((⟨w3.heap.size, 0, none⟩ : Addr).add j) = some u) := nw
     have hsz : w.heap.size + 2 ≤ w3.heap.size := by have := HRR.out.size; have := hb3.size; simp at this; omega
     have hxl : xs.length + 1 ≤ 1048576 := by omega
     obtain ⟨nx, enx⟩ : ∃ nx, nx = xs.length := ⟨_, rfl⟩
     have HNX : Hid (nx = xs.length) := enx
     have HB9 : Hid (∀ w9, ((set3 w3 wr.heap.size (.bool y.l) (.slice a1 n1 q1) (.slice a2 n2 q2)).alloc (.cells #[.bool y.l, .slice a1 n1 q1, .slice a2 n2 q2] 87)).grownBy w9 (Value.slice av xs.length cv).ownBlock → Bx w9 (w.heap.size + 1) 87 (.bool true) (.slice none 0 0) (.slice av xs.length cv)) := fun w9 gr => by
      refine xs3.keep ?_
      rw [gr.block _ (by simp; omega) (fun e2 => by have := (HRR.out.own.lt _ e2.symm).1; omega)]
      exact heap_alloc_old _ _ (by simp; omega)
     clear hr hb3 ho y0 xb gf hz1 x0 x1 x2 f2 own4 nw
     go_wp2_with (refine wpList_append_lies _ (by rfl) (.tmp 37) (.tmp 39) 85 (by rfl) (w.heap.size + 2) 87 i25 _ 3 56 Tryz.underlying85 HI.out.1 HI.out.2.1 HI.out.2.2.1 HI.out.2.2.2 (by rfl) (by decide) (.slice av xs.length cv) xs.length (fl ys) (by rfl) HO4.out ⟨w3.heap.size, 0, none⟩ 1 1 [.bool y.l, .slice a1 n1 q1, .slice a2 n2 q2] (by rfl) (by rfl) HNW.out (by simp [Value.oneCell']) (by decide) (by unfold maxLen; omega) (by omega) (by simp; omega) _ (by rfl) ?_; intro g9 cap9 w9 own9 gr9 at9 lt9; obtain ⟨c90, c91, c92, c9f⟩ := (HB9.out w9 gr9).cells; have f92 := c9f 2; have HL9 : Hid (w9.ownsRow (w.heap.size + 2) 87 3 (.slice (some ⟨g9, 0, none⟩) (xs.length + 1) cap9) (xs.length + 1) (fl ys ++ [.bool y.l, .slice a1 n1 q1, .slice a2 n2 q2]) ∧ ((set3 w3 wr.heap.size (.bool y.l) (.slice a1 n1 q1) (.slice a2 n2 q2)).alloc (.cells #[.bool y.l, .slice a1 n1 q1, .slice a2 n2 q2] 87)).grownBy w9 (Value.slice av xs.length cv).ownBlock ∧ ((Value.slice av xs.length cv).ownBlock = some g9 ∨ g9 = ((set3 w3 wr.heap.size (.bool y.l) (.slice a1 n1 q1) (.slice a2 n2 q2)).alloc (.cells #[.bool y.l, .slice a1 n1 q1, .slice a2 n2 q2] 87)).heap.size)) := ⟨own9, gr9, at9⟩; clear own9 gr9 at9 lt9 c9f)
     have hN := HRR.out.next HZ.out.1 HZ.out.2 HL9.out.1 HL9.out.2.1 (fun g hg => by
      have e : g9 = g := Option.some.inj hg
      subst e
      rcases HL9.out.2.2 with q | q
      ·exact Or.inl q
      ·right; rw [q]; simp)
     have HN : Hid (∃ sf' tf', Rl w (w9.setCell ⟨w.heap.size + 1, 2, none⟩ (.slice (some ⟨g9, 0, none⟩) (xs.length + 1) cap9)) (.slice (some ⟨g9, 0, none⟩) (xs.length + 1) cap9) (xs ++ [y]) (ys ++ [(y.l, .slice a1 n1 q1, .slice a2 n2 q2)]) sf' tf') := ⟨_, _, hN⟩
     clear hN
     go_wp2_with fail
     go_roundg (Z - z)
     case measure => omega
     case rel =>
      obtain ⟨sf', tf', hN⟩ := HN.out
      exact ⟨z, n', _, xs ++ [y], _, sf', tf', by simp; omega, hz.2, rfl, by omega, rfl, HX.out, hN⟩
   ·have i1 : ¬ (at_ : Int) < (Z : Int) := by omega
    have ez : at_ = Z := by omega
    have hx : rdL (rd s d) n at_ Z xs = .ok (.mk true [] xs) Z := by
     cases n with
     | zero => rw [rdL]
     | succ n => rw [rdL, if_neg hin]
    have HX : Hid (rd s (d + 1) p e = .ok (.mk true [] xs) Z) := HR.out.trans (HRL.out.trans hx)
    obtain ⟨r0, r1, r2, rf⟩ := HRR.out.res.cells
    have rf0 := rf 0
    have rf1 := rf 1
    have rf2 := rf 2
    clear hx rf
    go_wp2_with fail
    refine bodyPost_ret (res2 rfl _ _ w.heap.size _ _ rfl rfl (loadVar25 (set3_cells r0 r1 r2).1 (set3_cells r0 r1 r2).2.1 (set3_cells r0 r1 r2).2.2)) rfl ?_
    have t3 := set3_turn wr w.heap.size (.bool true) (.slice none 0 0) (.slice av xs.length cv)
    have hsz := HRR.out.size
    unfold ItemPost
    rw [HX.out]
    refine ⟨HRR.out.below.trans (t3.below (fun i q => by omega) (by omega)), _, _, rfl, ?_⟩
    have hR := HRR.out
    have ho : Own wr (w.heap.size + 2) wr.heap.size (.mk true [] xs) (.slice none 0 0) (.slice av xs.length cv) := .lst ys sf tf hR.own (fun q hq => (hR.own.lt q hq).2) hR.len (by omega) hR.h1 hR.h2 hR.h3 hR.h4 hR.hb hR.hr
    exact (ho.turn t3 (fun i q1 q2 => by omega) (Nat.le_refl _)).wide (by omega) (by simp)
theorem read_any (d : Nat) (hd : d ≤ 80) : (∀ (w : World) (a : Option Addr) (b off e c p : Nat) (s : List Nat), Vp w a b off e c s → p < e → ¬ gd s p < 192 →
   Calls Tryz.prog 101 #[.slice a e c, .int .i64 p, .int .i64 ((80 - d : Nat) : Int)] w (ItemPost s d p e w)) ∧
  (∀ (w : World) (a : Option Addr) (b off e c p : Nat) (s : List Nat), Vp w a b off e c s → p ≤ e →
   Calls Tryz.prog 69 #[.slice a e c, .int .i64 p, .int .i64 ((80 - d : Nat) : Int)] w (ItemPost s d p e w)) := by
 induction d with
 | zero => exact ⟨readList_zero, readItem_any 0 (by omega) readList_zero⟩
 | succ d ih =>
  have h := readList_succ d hd (ih (by omega)).2
  exact ⟨h, readItem_any (d + 1) hd h⟩
end Go.Proofs.YtcnhinnpieehoaaGreatDoor.Nz
