import Derived.Test.YtpiinkfcaoaffaaIozy
/-
  itemOf: a branch.
-/
namespace Go.Proofs.Ytpiinkfcaoaffaa
open Go.RowKit
theorem eRit : ∀ args w, (callFunc 31 args).run Try.prog w = .ok (.enter 31 args) w := enters_of Try.func31 (by kernel_rfl) rfl
theorem Lf.both {P Q : Nat → Prop} {w w' : World} (k : ∀ i, P i → i < w.heap.size → w'.heap[i]? = w.heap[i]? ∧ Q i) {x : It} {vb vi : Value} (h : Lf P w x vb vi) : Lf Q w' x vb vi :=
  (Lf.same (P := fun i => Q i ∧ w'.heap[i]? = w.heap[i]?) (fun _ hi _ => hi.2) (h.mono (fun i hi hl => ⟨(k i hi hl).2, (k i hi hl).1⟩))).mono (fun _ hi _ => hi.1)
/-- A LIST BEING MADE in the box q, r0 aside: v its items so far -/
structure Gk (W wr : World) (q r0 L : Nat) (v : Value) (xs : List It) (ys : List (Bool × Value × Value)) : Prop where
  own : wr.ownsRow L 51 3 v xs.length (fl ys)
  len : ys.length = xs.length
  hb : ∀ (i : Nat) (x : It) (y : Bool × Value × Value), xs[i]? = some x → ys[i]? = some y → y.1 = x.l
  hr : ∀ (i : Nat) (x : It) (y : Bool × Value × Value), xs[i]? = some x → ys[i]? = some y → Lf (fun k => k ≠ q ∧ k ≠ r0 ∧ v.ownBlock ≠ some k) wr x y.2.1 y.2.2
  box : Bx wr q 51 (.bool true) (.slice none 0 0) v
  lq : q < L ∧ r0 < q
  ls : L ≤ wr.heap.size
  turn : Turn (fun k => k = q) W wr
theorem Gk.start {W : World} {q r0 L : Nat} (h : Bx W q 51 (.bool true) (.slice none 0 0) (.slice none 0 0)) (hq : q < L ∧ r0 < q) (hL : L ≤ W.heap.size) : Gk W W q r0 L (.slice none 0 0) [] [] :=
  ⟨⟨rfl, Or.inl ⟨rfl, rfl⟩⟩, rfl, fun i x y hx => by simp at hx, fun i x y hx => by simp at hx, h, hq, hL, Turn.refl _ _⟩
theorem Gk.next {W wr w2 w5 : World} {q r0 L : Nat} {v v' vy vz : Value} {xs : List It} {ys : List (Bool × Value × Value)} {y : It} {o' : Obj} {P : Nat → Prop} (h : Gk W wr q r0 L v xs ys) (hW : W.heap.size = L)
    (b2 : Below wr.heap.size wr w2) (ho : Lf P w2 y vy vz) (hP : ∀ k, P k → k < w2.heap.size → k ≠ q ∧ k ≠ r0 ∧ v.ownBlock ≠ some k)
    (own' : w5.ownsRow L 51 3 v' (xs.length + 1) (fl ys ++ [.bool y.l, vy, vz])) (gr : (w2.alloc o').grownBy w5 v.ownBlock)
    (hg : ∀ g, v'.ownBlock = some g → v.ownBlock = some g ∨ w2.heap.size ≤ g) :
    Gk W (w5.setCell ⟨q, 2, none⟩ v') q r0 L v' (xs ++ [y]) (ys ++ [(y.l, vy, vz)]) := by
  have z0 := h.ls
  have z1 := h.lq
  have z2 := b2.size
  have z5 : w2.heap.size + 1 ≤ w5.heap.size := by have := gr.size; simpa using this
  have vlt : ∀ k, v.ownBlock = some k → L ≤ k ∧ k < wr.heap.size := fun k hk => h.own.lt k hk
  have key : ∀ k, k < w2.heap.size → v.ownBlock ≠ some k → k ≠ q → (w5.setCell ⟨q, 2, none⟩ v').heap[k]? = w2.heap[k]? := fun k k1 k3 k4 => by
    rw [Below.heap_setCell _ _ _ _ (fun e => k4 e), gr.block k (by simp; omega) (fun e => k3 e.symm)]
    exact heap_alloc_old _ _ k1
  have n1 : (xs ++ [y]).length = xs.length + 1 := by simp
  have e5 : (w5.setCell ⟨q, 2, none⟩ v').heap.size = w5.heap.size := by simp
  have up : ∀ k, k ≠ q ∧ k ≠ r0 ∧ v.ownBlock ≠ some k → k < w2.heap.size → k ≠ q ∧ k ≠ r0 ∧ v'.ownBlock ≠ some k := fun k hk hl => ⟨hk.1, hk.2.1, fun e => by
    rcases hg k e with z | z
    · exact hk.2.2 z
    · omega⟩
  have gt : ∀ {i : Nat} {x : It} {p : Bool × Value × Value}, (xs ++ [y])[i]? = some x → (ys ++ [(y.l, vy, vz)])[i]? = some p → (xs[i]? = some x ∧ ys[i]? = some p) ∨ (x = y ∧ p = (y.l, vy, vz)) := fun {i x p} hx hp => by
    have hl := h.len
    by_cases e : i < xs.length
    · left
      rw [List.getElem?_append_left e] at hx
      rw [List.getElem?_append_left (by omega)] at hp
      exact ⟨hx, hp⟩
    · right
      have hi := (List.getElem?_eq_some_iff.1 hx).1
      rw [n1] at hi
      have e2 : i = xs.length := by omega
      subst e2
      rw [List.getElem?_append_right (by omega)] at hx
      rw [List.getElem?_append_right (by omega)] at hp
      simp at hx
      simp [hl] at hp
      exact ⟨hx.symm, hp.symm⟩
  refine ⟨?_, by simp [h.len], fun i x p hx hp => ?_, fun i x p hx hp => ?_, ?_, z1, by omega, ?_⟩
  · rw [n1, fl_app]
    refine own_same own' (fun g hg' => ?_)
    exact Below.heap_setCell _ _ _ _ (fun e => by have := (own'.lt g hg').1; simp at e; omega)
  · rcases gt hx hp with ⟨hx, hp⟩ | ⟨rfl, rfl⟩
    · exact h.hb i x p hx hp
    · rfl
  · rcases gt hx hp with ⟨hx, hp⟩ | ⟨rfl, rfl⟩
    · have l0 := (h.hr i x p hx hp).keep b2
      exact Lf.both (fun k hk hl => ⟨key k hl hk.2.2 hk.1, up k hk hl⟩) l0
    · exact Lf.both (fun k hk hl => ⟨key k hl (hP k hk hl).2.2 (hP k hk hl).1, up k (hP k hk hl) hl⟩) ho
  · have : Bx w5 q 51 (.bool true) (.slice none 0 0) v := by
      refine h.box.keep ?_
      rw [gr.block _ (by simp; omega) (fun e2 => by have := (vlt _ e2.symm).1; omega)]
      rw [heap_alloc_old _ _ (by omega)]
      exact b2.block q (by omega)
    exact this.set2
  · refine ⟨(gr.os.trans b2.os).trans h.turn.os, (gr.tape.trans b2.tape).trans h.turn.tape, (gr.output.trans b2.output).trans h.turn.output, by rw [e5]; omega, fun k k1 k2 => ?_⟩
    rw [key k (by omega) (fun e => by have := (vlt k e).1; omega) k2, b2.block k (by omega)]
    exact h.turn.block k k1 k2
set_option maxRecDepth 100000 in
set_option maxHeartbeats 3200000 in
theorem itemOf_branch {w : World} {n : Nd} {u : Nv} (h : Nin w n u) (k1 : n.k ≠ 1) (k2 : n.k ≠ 2) : Calls Try.prog 17 #[.agg (nc n u).toArray] w (IoPst n w) := by
  obtain ⟨W0, eW0⟩ : ∃ W, W = w.alloc (.cells (nc n u).toArray 29) := ⟨_, rfl⟩
  obtain ⟨W1, eW1⟩ : ∃ W, W = W0.alloc (.cells #[.bool false, .slice none 0 0, .slice none 0 0] 51) := ⟨_, rfl⟩
  have B0 : Below w.heap.size w W0 := by rw [eW0]; exact below_alloc _ _
  have B1 : Below w.heap.size w W1 := by rw [eW1]; exact ch B0 (below_alloc _ _)
  have s1 : W1.heap.size = w.heap.size + 2 := by rw [eW1, eW0]; simp
  have nb : Nb W1 w.heap.size n u := by rw [eW1]; exact (by rw [eW0]; exact nb_new h.W w u : Nb W0 w.heap.size n u).keep (below_alloc _ _)
  have bx1 : Bx W1 (w.heap.size + 1) 51 (.bool false) (.slice none 0 0) (.slice none 0 0) := by
    have := heap_alloc_new W0 (.cells #[.bool false, .slice none 0 0, .slice none 0 0] 51)
    rw [← eW1, show W0.heap.size = w.heap.size + 1 by rw [eW0]; simp] at this
    exact this
  have K1 := refItem_any h.W.next (Rel.keep h.x B1)
  have hh := h.W.next.1
  have cx := nb.x
  obtain ⟨el, eel⟩ : ∃ l, l = (rIt n.next).l := ⟨_, rfl⟩
  unfold RitPst at K1
  rw [← eel] at K1
  have HW : Hid (W0 = w.alloc (.cells (nc n u).toArray 29) ∧ W1 = W0.alloc (.cells #[.bool false, .slice none 0 0, .slice none 0 0] 51)) := ⟨eW0, eW1⟩
  have HH : Hid (Nin w n u ∧ Below w.heap.size w W1 ∧ W1.heap.size = w.heap.size + 2 ∧ Nb W1 w.heap.size n u ∧ Bx W1 (w.heap.size + 1) 51 (.bool false) (.slice none 0 0) (.slice none 0 0)) := ⟨h, B1, s1, nb, bx1⟩
  have HK : Hid (nIt n = .mk true [] (n.kids.map rIt ++ [.mk false n.val []])) := by show _ = _; unfold nIt; rw [if_neg k1, if_neg k2]
  have j1 : (n.k == 1) = false := by simpa using k1
  have j2 : (n.k == 2) = false := by simpa using k2
  obtain ⟨av, bv', ov, cv, ev, -, -, -, hlv⟩ := h.v
  have EV : Hid (u.v = .slice av n.val.length cv) := ev
  obtain ⟨i25, hi0, hz0, hz1, hz2⟩ := info_parts infoIt
  have HI0 : Hid (Try.prog.info? 51 = some i25 ∧ i25.zero = some (.agg #[.bool false, .slice none 0 0, .slice none 0 0]) ∧ i25.size = 3 ∧ i25.bytes = 56) := ⟨hi0, hz0, hz1, hz2⟩
  clear h B0 B1 s1 bx1 eel eW0 eW1 nb ev hi0 hz0 hz1 hz2
  go_enter Try.func17, Try.ntmps17
  go_upto_region 1 with (fail)
  rw [← HW.out.1, ← HW.out.2]
  go_wp2_with (first
    | refine wpList_ld26 (by kernel_rfl) _ (by rfl) _ _ _ _ hh cx (by rfl) ?_
    | (go_at_call 31; refine K1.mono ?_; rintro e w2 ⟨vb, vi, rfl, lf, b2⟩; obtain ⟨a1, n1, k1', a2, n2, k2', rfl, rfl⟩ := lf.lies.form; have HL : Hid (Below W1.heap.size W1 w2) := b2; have nb2 := HH.out.2.2.2.1.keep (ch b2 (below_alloc w2 (.cells #[.bool el, .slice a1 n1 k1', .slice a2 n2 k2'] 51))); have ck := nb2.k; clear lf b2 K1 nb2))
  obtain ⟨W, eW⟩ : ∃ W, W = (w2.alloc (.cells #[.bool el, .slice a1 n1 k1', .slice a2 n2 k2'] 51)).alloc (.cells #[.bool true, .slice none 0 0, .slice none 0 0] 51) := ⟨_, rfl⟩
  rw [← eW]
  have BW : Below W1.heap.size W1 W := by rw [eW]; exact ch HL.out ((below_alloc _ _).alloc (by simp) _)
  obtain ⟨q, eq⟩ : ∃ q, q = w2.heap.size + 1 := ⟨_, rfl⟩
  have sW : W.heap.size = q + 1 := by rw [eW, eq]; simp
  have bxq : Bx W q 51 (.bool true) (.slice none 0 0) (.slice none 0 0) := by
    have := heap_alloc_new (w2.alloc (.cells #[.bool el, .slice a1 n1 k1', .slice a2 n2 k2'] 51)) (.cells #[.bool true, .slice none 0 0, .slice none 0 0] 51)
    rw [← eW, World.size_alloc, ← eq] at this
    exact this
  have lq : w.heap.size + 1 < q := by have := HL.out.size; have := HH.out.2.2.1; omega
  have HG0 : Hid (Gk W W q (w.heap.size + 1) W.heap.size (.slice none 0 0) [] []) := Gk.start bxq ⟨by omega, lq⟩ (Nat.le_refl _)
  have HWW : Hid (Below W1.heap.size W1 W ∧ W.heap.size = q + 1 ∧ w.heap.size + 1 < q) := ⟨BW, sW, lq⟩
  rw [← eq]
  clear eW eq BW sW bxq lq
  go_loopg [34] 16 (fun gg k wr => ∃ (i : Nat) (v : Value) (ys : List (Bool × Value × Value)), i ≤ 16 ∧ gg = 16 - i ∧ k = .int .i64 i ∧ Gk W wr q (w.heap.size + 1) W.heap.size v ((n.kids.take i).map rIt) ys)
  case atStart => exact ⟨0, _, _, by omega, rfl, rfl, HG0.out⟩
  case round =>
    obtain ⟨i, v, ys, hi, rfl, rfl, hG⟩ := hrel
    have hlen : ((n.kids.take i).map rIt).length = i := by rw [List.length_map, List.length_take, HH.out.1.W.kids]; omega
    have bw : Below W1.heap.size W1 wr := HWW.out.1.trans (hG.turn.below (B := W1.heap.size) (fun k e => by have := HWW.out.2; have := HH.out.2.2.1; have := HL.out.size; have := HWW.out.1.size; omega) HWW.out.1.size)
    have nbr := HH.out.2.2.2.1.keep bw
    by_cases hin : i < 16
    · have i1 : (i : Int) < 16 := by omega
      obtain ⟨r, hr, hm, hrW, hrb⟩ := HH.out.1.kid hin
      have rg := nbr.kid hr
      have hr32 := hrW.1
      have bww : Below w.heap.size w wr := ch HH.out.2.1 bw
      have KR := refItem_any hrW (Rel.keep hrb (bww.trans ((Below.refl _ _).drew)))
      obtain ⟨yl, eyl⟩ : ∃ l, l = (rIt r).l := ⟨_, rfl⟩
      unfold RitPst at KR
      rw [← eyl] at KR
      have HS : Hid (∀ w' : World, w'.heap[w.heap.size]? = wr.heap[w.heap.size]? → w'.rangeAt w.heap.size (38 + i * 34) (rcs r (u.k i))) := fun w' e => rng_same rg e
      obtain ⟨v2, ev2⟩ : ∃ v2, v2 = v := ⟨_, rfl⟩
      subst ev2
      have lw : w.heap.size < wr.heap.size := nbr.lt
      have HX : Hid (Gk W wr q (w.heap.size + 1) W.heap.size v2 ((n.kids.take i).map rIt) ys ∧ n.kids[i]? = some r ∧ yl = (rIt r).l ∧ ((n.kids.take i).map rIt).length = i ∧ w.heap.size < wr.heap.size) := ⟨hG, hr, eyl, hlen, lw⟩
      have HOW : Hid (∀ w', Below wr.heap.size wr w' → w'.ownsRow W.heap.size 51 3 v2 i (fl ys)) := fun w' k => by
        have := own_same HX.out.1.own (w' := w') (fun g hg => k.block g (HX.out.1.own.lt g hg).2)
        rw [HX.out.2.2.2.1] at this
        exact this
      have HQ : Hid (∀ w', Below wr.heap.size wr w' → Bx w' q 51 (.bool true) (.slice none 0 0) v2) := fun w' k => HX.out.1.box.keep (k.block _ HX.out.1.box.lt)
      have HQ9 : Hid (∀ (w3 : World), Below wr.heap.size wr w3 → ∀ (o : Obj) (w9 : World), (w3.alloc o).grownBy w9 v2.ownBlock → w9.heap[w.heap.size]? = wr.heap[w.heap.size]? ∧ Bx w9 q 51 (.bool true) (.slice none 0 0) v2) := fun w3 h3 o w9 gr => by
        have z3 := h3.size
        have e : ∀ k, k < wr.heap.size → v2.ownBlock ≠ some k → w9.heap[k]? = wr.heap[k]? := fun k k1 k2 => by
          rw [gr.block k (by simp; omega) (fun z => k2 z.symm), heap_alloc_old _ _ (by omega)]
          exact h3.block k k1
        have l1 := HX.out.1.lq
        have l2 := HWW.out.2
        refine ⟨e _ HX.out.2.2.2.2 (fun z => by have := (HX.out.1.own.lt _ z).1; omega), HX.out.1.box.keep (e _ HX.out.1.box.lt (fun z => by have := (HX.out.1.own.lt _ z).1; omega))⟩
      have HREL : Hid (∀ (e1 : Option Addr) (m1 d1 : Nat) (e2 : Option Addr) (m2 d2 : Nat) (w3 : World) (g9 cap9 : Nat) (w9 : World), (Below wr.heap.size wr w3 ∧ Lf (fun k => wr.heap.size ≤ k ∧ k < w3.heap.size) w3 (rIt r) (.slice e1 m1 d1) (.slice e2 m2 d2) ∧ w9.ownsRow W.heap.size 51 3 (.slice (some ⟨g9, 0, none⟩) (i + 1) cap9) (i + 1) (fl ys ++ [.bool yl, .slice e1 m1 d1, .slice e2 m2 d2]) ∧ (w3.alloc (.cells #[.bool yl, .slice e1 m1 d1, .slice e2 m2 d2] 51)).grownBy w9 v2.ownBlock ∧ (v2.ownBlock = some g9 ∨ w3.heap.size ≤ g9)) → Gk W (w9.setCell ⟨q, 2, none⟩ (.slice (some ⟨g9, 0, none⟩) (i + 1) cap9)) q (w.heap.size + 1) W.heap.size (.slice (some ⟨g9, 0, none⟩) (i + 1) cap9) ((n.kids.take (i + 1)).map rIt) (ys ++ [(yl, .slice e1 m1 d1, .slice e2 m2 d2)])) := by
        rintro e1 m1 d1 e2 m2 d2 w3 g9 cap9 w9 ⟨r1, r2, r3, r4, r5⟩
        have tk : (n.kids.take (i + 1)).map rIt = (n.kids.take i).map rIt ++ [rIt r] := by
          rw [List.take_add_one, HX.out.2.1, List.map_append]
          rfl
        have l1 := HX.out.1.lq
        have hN := HX.out.1.next (y := rIt r) rfl r1 r2 (fun k hk _ => ⟨by have := HX.out.1.box.lt; omega, by have := HX.out.1.box.lt; omega, fun z => by have := (HX.out.1.own.lt _ z).2; omega⟩) (by rw [HX.out.2.2.2.1, ← HX.out.2.2.1]; exact r3) r4 (fun g hg => by
          have e : g9 = g := Option.some.inj hg
          subst e
          exact r5)
        rw [tk, HX.out.2.2.1]
        exact hN
      have HKR : Hid (Calls Try.prog 31 #[.agg (rcs r (u.k i)).toArray] wr.drew fun e w' => ∃ vb vi, e = .returned (iv yl vb vi) ∧ Lf (fun k => wr.drew.heap.size ≤ k ∧ k < w'.heap.size) w' (rIt r) vb vi ∧ Below wr.drew.heap.size wr.drew w') := KR
      clear hG hlen bw nbr hr hm hrW hrb bww KR eyl rg lw
      go_upto_region 12 with (fail)
      refine wp_region_held_drew (S := fun w' => w'.rangeAt w.heap.size (38 + i * 34) (rcs r (u.k i))) (by kernel_rfl) (HS.out _ rfl) ?_
      intro hS
      change wpAnyH _ _ _ _ _ 11 _ _ _
      refine wpAnyH_take (i := 0) (v := (.pointer (some ⟨q, 2, none⟩))) (by simp only [List.getElem?_toArray, List.getElem?_cons_zero]; rfl) (by kernel_rfl) (by kernel_rfl) (by kernel_rfl) (by exact fun _ _ _ h => h) (y_f62 (by kernel_rfl) _ 2 rfl _ 0 rfl (by omega)) hS ?_
      try simp only [Act.put, List.setIfInBounds_toArray, List.set_cons_zero, List.set_cons_succ]
      refine wpAnyH_take (i := 2) (v := (.int .i64 i)) (by simp only [List.getElem?_toArray, List.getElem?_cons_zero, List.getElem?_cons_succ]; rfl) (by kernel_rfl) (by kernel_rfl) (by kernel_rfl) (by exact fun _ _ _ h => h) (y_move (by kernel_rfl) _ rfl _ rfl) hS ?_
      try simp only [Act.put, List.setIfInBounds_toArray, List.set_cons_zero, List.set_cons_succ]
      refine wpAnyH_take (i := 3) (v := (.pointer (some ⟨w.heap.size, 38, none⟩))) (by simp only [List.getElem?_toArray, List.getElem?_cons_zero, List.getElem?_cons_succ]; rfl) (by kernel_rfl) (by kernel_rfl) (by kernel_rfl) (by exact fun _ _ _ h => h) (y_f29k (by kernel_rfl) _ rfl _ rfl) hS ?_
      try simp only [Act.put, List.setIfInBounds_toArray, List.set_cons_zero, List.set_cons_succ]
      refine wpAnyH_take (i := 4) (v := (.pointer (some ⟨w.heap.size, 38 + i * 34, none⟩))) (by simp only [List.getElem?_toArray, List.getElem?_cons_zero, List.getElem?_cons_succ]; rfl) (by kernel_rfl) (by kernel_rfl) (by kernel_rfl) (by exact fun _ _ _ h => h) (y_i27 (by kernel_rfl) _ _ rfl _ _ i rfl rfl hin) hS ?_
      try simp only [Act.put, List.setIfInBounds_toArray, List.set_cons_zero, List.set_cons_succ]
      refine wpAnyH_take (i := 5) (v := (.agg (rcs r (u.k i)).toArray)) (by simp only [List.getElem?_toArray, List.getElem?_cons_zero, List.getElem?_cons_succ]; rfl) (by kernel_rfl) (by kernel_rfl) (by kernel_rfl) (by exact fun _ _ _ h => h) (y_ld26 (by kernel_rfl) _ rfl _ _ rfl r (u.k i) hr32 (fun w' hs => hs)) hS ?_
      try simp only [Act.put, List.setIfInBounds_toArray, List.set_cons_zero, List.set_cons_succ]
      refine wpAnyH_ready (rs := [1, 6]) (by kernel_rfl) (by simp) ?_
      refine AllReadyH.cons (by simp only [List.getElem?_toArray, List.getElem?_cons_zero, List.getElem?_cons_succ]; rfl) (fun K hK => ?_) (AllReadyH.cons (by simp only [List.getElem?_toArray, List.getElem?_cons_zero, List.getElem?_cons_succ]; rfl) (fun K hK => ?_) AllReadyH.nil)
      · obtain ⟨-, -, cq, -⟩ := (HQ.out wr.drew (Below.drew (Below.refl _ _))).cells
        go_simp
        refine hK.out _ _ hS (fun hS => ?_)
        clear cq
        clear hK K
        try simp only [Act.put, List.setIfInBounds_toArray, List.set_cons_zero, List.set_cons_succ]
        refine wpAnyH_ready (rs := [6]) (by kernel_rfl) (by simp) ?_
        refine AllReadyH.cons (by simp only [List.getElem?_toArray, List.getElem?_cons_zero, List.getElem?_cons_succ]; rfl) (fun K hK => ?_) AllReadyH.nil
        refine r_call1 31 _ _ rfl (by kernel_rfl) _ rfl eRit ?_
        refine HKR.out.mono ?_
        rintro _ w3 ⟨vy, vz, rfl, ho3, hb3⟩
        obtain ⟨e1, m1, d1, e2, m2, d2, rfl, rfl⟩ := ho3.lies.form
        have Hb3 : Hid (Below wr.heap.size wr w3) := ch (Below.drew (Below.refl _ _)) hb3
        have Ho3 : Hid (Lf (fun k => wr.heap.size ≤ k ∧ k < w3.heap.size) w3 (rIt r) (.slice e1 m1 d1) (.slice e2 m2 d2)) := ho3
        clear hb3 ho3
        refine ⟨_, rfl, ?_⟩
        refine hK.out _ _ (HS.out _ (Hb3.out.block _ HX.out.2.2.2.2)) (fun hS => ?_)
        clear hK K
        try simp only [Act.put, List.setIfInBounds_toArray, List.set_cons_zero, List.set_cons_succ]
        refine wpAnyH_ready (rs := [7]) (by kernel_rfl) (by simp) ?_
        refine AllReadyH.cons (by simp only [List.getElem?_toArray, List.getElem?_cons_zero, List.getElem?_cons_succ]; rfl) (fun K hK => ?_) AllReadyH.nil
        go_simp
        refine hK.out _ _ (HS.out _ ((heap_alloc_old _ _ (Nat.lt_of_lt_of_le HX.out.2.2.2.2 Hb3.out.size)).trans (Hb3.out.block _ HX.out.2.2.2.2))) (fun hS => ?_)
        clear hK K
        try simp only [Act.put, List.setIfInBounds_toArray, List.set_cons_zero, List.set_cons_succ]
        refine wpAnyH_ready (rs := [8]) (by kernel_rfl) (by simp) ?_
        refine AllReadyH.cons (by simp only [List.getElem?_toArray, List.getElem?_cons_zero, List.getElem?_cons_succ]; rfl) (fun K hK => ?_) AllReadyH.nil
        have own4 := HOW.out _ (ch Hb3.out (below_alloc w3 (.cells #[.bool yl, .slice e1 m1 d1, .slice e2 m2 d2] 51)))
        have nw := World.news_of_block (w := w3.alloc (.cells #[.bool yl, .slice e1 m1 d1, .slice e2 m2 d2] 51)) (B := w3.heap.size) (cs := #[.bool yl, .slice e1 m1 d1, .slice e2 m2 d2]) (t := 51) (fr := (0, 0)) (heap_alloc_new _ _)
        refine step_append_lies _ (by rfl) (.tmp 38) (.tmp 44) 49 (by rfl) W.heap.size 51 i25 _ 3 56 Try.underlying49 HI0.out.1 HI0.out.2.1 HI0.out.2.2.1 HI0.out.2.2.2 (by rfl) (by decide) v2 i (fl ys) (by rfl) own4 ⟨w3.heap.size, 0, none⟩ 1 1 [.bool yl, .slice e1 m1 d1, .slice e2 m2 d2] (by rfl) (by rfl) nw (by simp [Value.oneCell']) (by decide) (by unfold maxLen; omega) (by omega) (by have := HX.out.1.ls; have := Hb3.out.size; simp; omega) _ (by rfl) ?_
        intro g9 cap9 w9 own9 gr9 at9 lt9
        have Hg9 : Hid (w9.ownsRow W.heap.size 51 3 (.slice (some ⟨g9, 0, none⟩) (i + 1) cap9) (i + 1) (fl ys ++ [.bool yl, .slice e1 m1 d1, .slice e2 m2 d2]) ∧ (w3.alloc (.cells #[.bool yl, .slice e1 m1 d1, .slice e2 m2 d2] 51)).grownBy w9 v2.ownBlock ∧ (v2.ownBlock = some g9 ∨ w3.heap.size ≤ g9)) := ⟨own9, gr9, by rcases at9 with z | z; exact Or.inl z; right; rw [z]; simp⟩
        have hq9 := HQ9.out w3 Hb3.out _ w9 gr9
        obtain ⟨p0, p1, p2, pf⟩ := hq9.2.cells
        have pf2 := pf 2
        refine hK.out _ _ (HS.out _ hq9.1) (fun hS => ?_)
        clear own9 gr9 at9 lt9 own4 nw pf
        clear hK K
        try simp only [Act.put, List.setIfInBounds_toArray, List.set_cons_zero, List.set_cons_succ]
        refine wpAnyH_take (i := 9) (v := (.pointer (some ⟨q, 2, none⟩))) (by simp only [List.getElem?_toArray, List.getElem?_cons_zero, List.getElem?_cons_succ]; rfl) (by kernel_rfl) (by kernel_rfl) (by kernel_rfl) (by exact fun _ _ _ h => h) (y_f62 (by kernel_rfl) _ 2 rfl _ 0 rfl (by omega)) hS ?_
        try simp only [Act.put, List.setIfInBounds_toArray, List.set_cons_zero, List.set_cons_succ]
        refine wpAnyH_ready (rs := [10]) (by kernel_rfl) (by simp) ?_
        refine AllReadyH.cons (by simp only [List.getElem?_toArray, List.getElem?_cons_zero, List.getElem?_cons_succ]; rfl) (fun K hK => ?_) AllReadyH.nil
        go_simp
        refine hK.out _ _ (HS.out _ ((Below.heap_setCell _ _ _ _ (fun e => by have := HWW.out.2; have e' : w.heap.size = q := e; omega)).trans hq9.1)) (fun hS => ?_)
        clear hK K
        refine wpAnyH_done (by kernel_rfl) ?_ _
        try simp only [Act.put]
        have HN9 := HREL.out _ _ _ _ _ _ _ _ _ _ ⟨Hb3.out, Ho3.out, Hg9.out.1, Hg9.out.2.1, Hg9.out.2.2⟩
        have HN8 : Hid (Gk W (w9.setCell ⟨q, 2, none⟩ (.slice (some ⟨g9, 0, none⟩) (i + 1) cap9)) q (w.heap.size + 1) W.heap.size (.slice (some ⟨g9, 0, none⟩) (i + 1) cap9) ((n.kids.take (i + 1)).map rIt) (ys ++ [(yl, .slice e1 m1 d1, .slice e2 m2 d2)])) := HN9
        clear HN9 Hg9 hq9 p0 p1 p2 pf2 hS
        go_wp2_with fail
        go_roundg (16 - (i + 1))
        case measure => omega
        case rel => exact ⟨i + 1, _, _, hin, rfl, by go_num, HN8.out⟩
      · refine r_call1 31 _ _ rfl (by kernel_rfl) _ rfl eRit ?_
        refine HKR.out.mono ?_
        rintro _ w3 ⟨vy, vz, rfl, ho3, hb3⟩
        obtain ⟨e1, m1, d1, e2, m2, d2, rfl, rfl⟩ := ho3.lies.form
        have Hb3 : Hid (Below wr.heap.size wr w3) := ch (Below.drew (Below.refl _ _)) hb3
        have Ho3 : Hid (Lf (fun k => wr.heap.size ≤ k ∧ k < w3.heap.size) w3 (rIt r) (.slice e1 m1 d1) (.slice e2 m2 d2)) := ho3
        clear hb3 ho3
        refine ⟨_, rfl, ?_⟩
        refine hK.out _ _ (HS.out _ (Hb3.out.block _ HX.out.2.2.2.2)) (fun hS => ?_)
        clear hK K
        try simp only [Act.put, List.setIfInBounds_toArray, List.set_cons_zero, List.set_cons_succ]
        refine wpAnyH_ready (rs := [1, 7]) (by kernel_rfl) (by simp) ?_
        refine AllReadyH.cons (by simp only [List.getElem?_toArray, List.getElem?_cons_zero, List.getElem?_cons_succ]; rfl) (fun K hK => ?_) (AllReadyH.cons (by simp only [List.getElem?_toArray, List.getElem?_cons_zero, List.getElem?_cons_succ]; rfl) (fun K hK => ?_) AllReadyH.nil)
        · obtain ⟨-, -, cq, -⟩ := (HQ.out w3 Hb3.out).cells
          go_simp
          refine hK.out _ _ hS (fun hS => ?_)
          clear cq
          clear hK K
          try simp only [Act.put, List.setIfInBounds_toArray, List.set_cons_zero, List.set_cons_succ]
          refine wpAnyH_ready (rs := [7]) (by kernel_rfl) (by simp) ?_
          refine AllReadyH.cons (by simp only [List.getElem?_toArray, List.getElem?_cons_zero, List.getElem?_cons_succ]; rfl) (fun K hK => ?_) AllReadyH.nil
          go_simp
          refine hK.out _ _ (HS.out _ ((heap_alloc_old _ _ (Nat.lt_of_lt_of_le HX.out.2.2.2.2 Hb3.out.size)).trans (Hb3.out.block _ HX.out.2.2.2.2))) (fun hS => ?_)
          clear hK K
          try simp only [Act.put, List.setIfInBounds_toArray, List.set_cons_zero, List.set_cons_succ]
          refine wpAnyH_ready (rs := [8]) (by kernel_rfl) (by simp) ?_
          refine AllReadyH.cons (by simp only [List.getElem?_toArray, List.getElem?_cons_zero, List.getElem?_cons_succ]; rfl) (fun K hK => ?_) AllReadyH.nil
          have own4 := HOW.out _ (ch Hb3.out (below_alloc w3 (.cells #[.bool yl, .slice e1 m1 d1, .slice e2 m2 d2] 51)))
          have nw := World.news_of_block (w := w3.alloc (.cells #[.bool yl, .slice e1 m1 d1, .slice e2 m2 d2] 51)) (B := w3.heap.size) (cs := #[.bool yl, .slice e1 m1 d1, .slice e2 m2 d2]) (t := 51) (fr := (0, 0)) (heap_alloc_new _ _)
          refine step_append_lies _ (by rfl) (.tmp 38) (.tmp 44) 49 (by rfl) W.heap.size 51 i25 _ 3 56 Try.underlying49 HI0.out.1 HI0.out.2.1 HI0.out.2.2.1 HI0.out.2.2.2 (by rfl) (by decide) v2 i (fl ys) (by rfl) own4 ⟨w3.heap.size, 0, none⟩ 1 1 [.bool yl, .slice e1 m1 d1, .slice e2 m2 d2] (by rfl) (by rfl) nw (by simp [Value.oneCell']) (by decide) (by unfold maxLen; omega) (by omega) (by have := HX.out.1.ls; have := Hb3.out.size; simp; omega) _ (by rfl) ?_
          intro g9 cap9 w9 own9 gr9 at9 lt9
          have Hg9 : Hid (w9.ownsRow W.heap.size 51 3 (.slice (some ⟨g9, 0, none⟩) (i + 1) cap9) (i + 1) (fl ys ++ [.bool yl, .slice e1 m1 d1, .slice e2 m2 d2]) ∧ (w3.alloc (.cells #[.bool yl, .slice e1 m1 d1, .slice e2 m2 d2] 51)).grownBy w9 v2.ownBlock ∧ (v2.ownBlock = some g9 ∨ w3.heap.size ≤ g9)) := ⟨own9, gr9, by rcases at9 with z | z; exact Or.inl z; right; rw [z]; simp⟩
          have hq9 := HQ9.out w3 Hb3.out _ w9 gr9
          obtain ⟨p0, p1, p2, pf⟩ := hq9.2.cells
          have pf2 := pf 2
          refine hK.out _ _ (HS.out _ hq9.1) (fun hS => ?_)
          clear own9 gr9 at9 lt9 own4 nw pf
          clear hK K
          try simp only [Act.put, List.setIfInBounds_toArray, List.set_cons_zero, List.set_cons_succ]
          refine wpAnyH_take (i := 9) (v := (.pointer (some ⟨q, 2, none⟩))) (by simp only [List.getElem?_toArray, List.getElem?_cons_zero, List.getElem?_cons_succ]; rfl) (by kernel_rfl) (by kernel_rfl) (by kernel_rfl) (by exact fun _ _ _ h => h) (y_f62 (by kernel_rfl) _ 2 rfl _ 0 rfl (by omega)) hS ?_
          try simp only [Act.put, List.setIfInBounds_toArray, List.set_cons_zero, List.set_cons_succ]
          refine wpAnyH_ready (rs := [10]) (by kernel_rfl) (by simp) ?_
          refine AllReadyH.cons (by simp only [List.getElem?_toArray, List.getElem?_cons_zero, List.getElem?_cons_succ]; rfl) (fun K hK => ?_) AllReadyH.nil
          go_simp
          refine hK.out _ _ (HS.out _ ((Below.heap_setCell _ _ _ _ (fun e => by have := HWW.out.2; have e' : w.heap.size = q := e; omega)).trans hq9.1)) (fun hS => ?_)
          clear hK K
          refine wpAnyH_done (by kernel_rfl) ?_ _
          try simp only [Act.put]
          have HN9 := HREL.out _ _ _ _ _ _ _ _ _ _ ⟨Hb3.out, Ho3.out, Hg9.out.1, Hg9.out.2.1, Hg9.out.2.2⟩
          have HN8 : Hid (Gk W (w9.setCell ⟨q, 2, none⟩ (.slice (some ⟨g9, 0, none⟩) (i + 1) cap9)) q (w.heap.size + 1) W.heap.size (.slice (some ⟨g9, 0, none⟩) (i + 1) cap9) ((n.kids.take (i + 1)).map rIt) (ys ++ [(yl, .slice e1 m1 d1, .slice e2 m2 d2)])) := HN9
          clear HN9 Hg9 hq9 p0 p1 p2 pf2 hS
          go_wp2_with fail
          go_roundg (16 - (i + 1))
          case measure => omega
          case rel => exact ⟨i + 1, _, _, hin, rfl, by go_num, HN8.out⟩
        · go_simp
          refine hK.out _ _ (HS.out _ ((heap_alloc_old _ _ (Nat.lt_of_lt_of_le HX.out.2.2.2.2 Hb3.out.size)).trans (Hb3.out.block _ HX.out.2.2.2.2))) (fun hS => ?_)
          clear hK K
          try simp only [Act.put, List.setIfInBounds_toArray, List.set_cons_zero, List.set_cons_succ]
          refine wpAnyH_ready (rs := [1]) (by kernel_rfl) (by simp) ?_
          refine AllReadyH.cons (by simp only [List.getElem?_toArray, List.getElem?_cons_zero, List.getElem?_cons_succ]; rfl) (fun K hK => ?_) AllReadyH.nil
          obtain ⟨-, -, cq, -⟩ := (HQ.out (w3.alloc (.cells #[.bool yl, .slice e1 m1 d1, .slice e2 m2 d2] 51)) (ch Hb3.out (below_alloc _ _))).cells
          go_simp
          refine hK.out _ _ hS (fun hS => ?_)
          clear cq
          clear hK K
          try simp only [Act.put, List.setIfInBounds_toArray, List.set_cons_zero, List.set_cons_succ]
          refine wpAnyH_ready (rs := [8]) (by kernel_rfl) (by simp) ?_
          refine AllReadyH.cons (by simp only [List.getElem?_toArray, List.getElem?_cons_zero, List.getElem?_cons_succ]; rfl) (fun K hK => ?_) AllReadyH.nil
          have own4 := HOW.out _ (ch Hb3.out (below_alloc w3 (.cells #[.bool yl, .slice e1 m1 d1, .slice e2 m2 d2] 51)))
          have nw := World.news_of_block (w := w3.alloc (.cells #[.bool yl, .slice e1 m1 d1, .slice e2 m2 d2] 51)) (B := w3.heap.size) (cs := #[.bool yl, .slice e1 m1 d1, .slice e2 m2 d2]) (t := 51) (fr := (0, 0)) (heap_alloc_new _ _)
          refine step_append_lies _ (by rfl) (.tmp 38) (.tmp 44) 49 (by rfl) W.heap.size 51 i25 _ 3 56 Try.underlying49 HI0.out.1 HI0.out.2.1 HI0.out.2.2.1 HI0.out.2.2.2 (by rfl) (by decide) v2 i (fl ys) (by rfl) own4 ⟨w3.heap.size, 0, none⟩ 1 1 [.bool yl, .slice e1 m1 d1, .slice e2 m2 d2] (by rfl) (by rfl) nw (by simp [Value.oneCell']) (by decide) (by unfold maxLen; omega) (by omega) (by have := HX.out.1.ls; have := Hb3.out.size; simp; omega) _ (by rfl) ?_
          intro g9 cap9 w9 own9 gr9 at9 lt9
          have Hg9 : Hid (w9.ownsRow W.heap.size 51 3 (.slice (some ⟨g9, 0, none⟩) (i + 1) cap9) (i + 1) (fl ys ++ [.bool yl, .slice e1 m1 d1, .slice e2 m2 d2]) ∧ (w3.alloc (.cells #[.bool yl, .slice e1 m1 d1, .slice e2 m2 d2] 51)).grownBy w9 v2.ownBlock ∧ (v2.ownBlock = some g9 ∨ w3.heap.size ≤ g9)) := ⟨own9, gr9, by rcases at9 with z | z; exact Or.inl z; right; rw [z]; simp⟩
          have hq9 := HQ9.out w3 Hb3.out _ w9 gr9
          obtain ⟨p0, p1, p2, pf⟩ := hq9.2.cells
          have pf2 := pf 2
          refine hK.out _ _ (HS.out _ hq9.1) (fun hS => ?_)
          clear own9 gr9 at9 lt9 own4 nw pf
          clear hK K
          try simp only [Act.put, List.setIfInBounds_toArray, List.set_cons_zero, List.set_cons_succ]
          refine wpAnyH_take (i := 9) (v := (.pointer (some ⟨q, 2, none⟩))) (by simp only [List.getElem?_toArray, List.getElem?_cons_zero, List.getElem?_cons_succ]; rfl) (by kernel_rfl) (by kernel_rfl) (by kernel_rfl) (by exact fun _ _ _ h => h) (y_f62 (by kernel_rfl) _ 2 rfl _ 0 rfl (by omega)) hS ?_
          try simp only [Act.put, List.setIfInBounds_toArray, List.set_cons_zero, List.set_cons_succ]
          refine wpAnyH_ready (rs := [10]) (by kernel_rfl) (by simp) ?_
          refine AllReadyH.cons (by simp only [List.getElem?_toArray, List.getElem?_cons_zero, List.getElem?_cons_succ]; rfl) (fun K hK => ?_) AllReadyH.nil
          go_simp
          refine hK.out _ _ (HS.out _ ((Below.heap_setCell _ _ _ _ (fun e => by have := HWW.out.2; have e' : w.heap.size = q := e; omega)).trans hq9.1)) (fun hS => ?_)
          clear hK K
          refine wpAnyH_done (by kernel_rfl) ?_ _
          try simp only [Act.put]
          have HN9 := HREL.out _ _ _ _ _ _ _ _ _ _ ⟨Hb3.out, Ho3.out, Hg9.out.1, Hg9.out.2.1, Hg9.out.2.2⟩
          have HN8 : Hid (Gk W (w9.setCell ⟨q, 2, none⟩ (.slice (some ⟨g9, 0, none⟩) (i + 1) cap9)) q (w.heap.size + 1) W.heap.size (.slice (some ⟨g9, 0, none⟩) (i + 1) cap9) ((n.kids.take (i + 1)).map rIt) (ys ++ [(yl, .slice e1 m1 d1, .slice e2 m2 d2)])) := HN9
          clear HN9 Hg9 hq9 p0 p1 p2 pf2 hS
          go_wp2_with fail
          go_roundg (16 - (i + 1))
          case measure => omega
          case rel => exact ⟨i + 1, _, _, hin, rfl, by go_num, HN8.out⟩
    · have i1 : ¬ (i : Int) < 16 := by omega
      obtain rfl : i = 16 := by omega
      rw [List.take_of_length_le (by rw [HH.out.1.W.kids]; omega)] at hG
      rw [List.length_map, List.length_take, HH.out.1.W.kids] at hlen
      obtain ⟨v2, ev2⟩ : ∃ v2, v2 = v := ⟨_, rfl⟩
      subst ev2
      obtain ⟨-, -, c2, -⟩ := hG.box.cells
      have cv2 := nbr.v
      rw [EV.out] at cv2
      have hl16 : (n.kids.map rIt).length = 16 := by rw [List.length_map, HH.out.1.W.kids]
      have HX : Hid (Gk W wr q (w.heap.size + 1) W.heap.size v2 (n.kids.map rIt) ys ∧ (n.kids.map rIt).length = 16 ∧ Below W1.heap.size W1 wr) := ⟨hG, hl16, bw⟩
      have HO4 : Hid ((wr.alloc (.cells #[.bool false, .slice av n.val.length cv, .slice none 0 0] 51)).ownsRow W.heap.size 51 3 v2 16 (fl ys)) := by
        have := own_same hG.own (w' := wr.alloc (.cells #[.bool false, .slice av n.val.length cv, .slice none 0 0] 51)) (fun g hg => heap_alloc_old _ _ (hG.own.lt g hg).2)
        rw [hl16] at this
        exact this
      have HNW : Hid _ := World.news_of_block (w := wr.alloc (.cells #[.bool false, .slice av n.val.length cv, .slice none 0 0] 51)) (B := wr.heap.size) (cs := #[.bool false, .slice av n.val.length cv, .slice none 0 0]) (t := 51) (fr := (0, 0)) (heap_alloc_new _ _)
      have HLS : Hid (W.heap.size ≤ wr.heap.size) := hG.ls
      have HQ9 : Hid (∀ (w9 : World), (wr.alloc (.cells #[.bool false, .slice av n.val.length cv, .slice none 0 0] 51)).grownBy w9 v2.ownBlock → Bx w9 q 51 (.bool true) (.slice none 0 0) v2) := fun w9 gr => by
        have l1 := HX.out.1.lq
        refine HX.out.1.box.keep ?_
        rw [gr.block q (by have := HX.out.1.box.lt; simp; omega) (fun z => by have := (HX.out.1.own.lt _ z.symm).1; omega), heap_alloc_old _ _ HX.out.1.box.lt]
      clear hG hlen bw nbr hl16
      go_wp2_with (refine wpList_append_lies _ (by rfl) (.tmp 49) (.tmp 53) 49 (by rfl) W.heap.size 51 i25 _ 3 56 Try.underlying49 HI0.out.1 HI0.out.2.1 HI0.out.2.2.1 HI0.out.2.2.2 (by rfl) (by decide) v2 16 (fl ys) (by rfl) HO4.out ⟨wr.heap.size, 0, none⟩ 1 1 [.bool false, .slice av n.val.length cv, .slice none 0 0] (by rfl) (by rfl) HNW.out (by simp [Value.oneCell']) (by decide) (by unfold maxLen; omega) (by omega) (by have := HLS.out; simp; omega) _ (by rfl) ?_; intro g9 cap9 w9 own9 gr9 at9 lt9; have hq9 := HQ9.out w9 gr9; obtain ⟨p0, p1, p2, pf⟩ := hq9.cells; have pf2 := pf 2; have HN : Hid (Gk W (w9.setCell ⟨q, 2, none⟩ (.slice (some ⟨g9, 0, none⟩) 17 cap9)) q (w.heap.size + 1) W.heap.size (.slice (some ⟨g9, 0, none⟩) 17 cap9) (n.kids.map rIt ++ [.mk false n.val []]) (ys ++ [(false, .slice av n.val.length cv, .slice none 0 0)])) := HX.out.1.next (y := .mk false n.val []) (P := fun k => k < w.heap.size) rfl (Below.refl _ _) (by have q := vb_vf HH.out.1.v; rw [EV.out] at q; exact lf_str (q.keep (ch HH.out.2.1 HX.out.2.2))) (fun k hk _ => ⟨by have := HWW.out.2; omega, by omega, fun z => by have := (HX.out.1.own.lt _ z).1; have := HWW.out.2; omega⟩) (by rw [HX.out.2.1]; exact own9) gr9 (fun g hg => by have e : g9 = g := Option.some.inj hg; subst e; rcases at9 with z | z; exact Or.inl z; right; rw [z]; simp); obtain ⟨u0, u1, u2, -⟩ := HN.out.box.cells; have HB : Hid (Below W1.heap.size W1 (w9.setCell ⟨q, 2, none⟩ (.slice (some ⟨g9, 0, none⟩) 17 cap9))) := HWW.out.1.trans (HN.out.turn.below (B := W1.heap.size) (fun k e => by have := HWW.out.2; have := HH.out.2.2.1; have := HL.out.size; have := HWW.out.1.size; omega) HWW.out.1.size); have bxr := HH.out.2.2.2.2.keep (HB.out.block (w.heap.size + 1) (by have := HH.out.2.2.1; omega)); obtain ⟨y0, y1, y2, yf⟩ := bxr.cells; have f0 := yf 0; have f1 := yf 1; have f2 := yf 2; have HBX : Hid (Bx (w9.setCell ⟨q, 2, none⟩ (.slice (some ⟨g9, 0, none⟩) 17 cap9)) (w.heap.size + 1) 51 (.bool false) (.slice none 0 0) (.slice none 0 0)) := bxr; clear own9 gr9 at9 lt9 hq9 pf bxr yf)
      have b6 := HBX.out.set3 (x' := .bool true) (y' := .slice none 0 0) (z' := .slice (some ⟨g9, 0, none⟩) 17 cap9)
      have t6 := set3_turn (w9.setCell ⟨q, 2, none⟩ (.slice (some ⟨g9, 0, none⟩) 17 cap9)) (w.heap.size + 1) (.bool true) (.slice none 0 0) (.slice (some ⟨g9, 0, none⟩) 17 cap9)
      obtain ⟨z0, z1, z2, -⟩ := b6.cells
      refine bodyPost_ret (res1 rfl _ _ (w.heap.size + 1) _ rfl (loadVar25 z0 z1 z2)) rfl ?_
      have b5 : Below w.heap.size w (w9.setCell ⟨q, 2, none⟩ (.slice (some ⟨g9, 0, none⟩) 17 cap9)) := ch HH.out.2.1 HB.out
      have hN := HN.out
      refine ⟨_, _, by rw [HK.out]; rfl, ?_, b5.trans (t6.below (fun i q => by omega) b5.size)⟩
      rw [HK.out]
      refine Lf.lies (P := fun k => k ≠ w.heap.size + 1) ?_
      refine Lf.same (w := w9.setCell ⟨q, 2, none⟩ (.slice (some ⟨g9, 0, none⟩) 17 cap9)) (fun i hi hl => t6.block i hl hi) ?_
      have lq := hN.lq
      have lw := HWW.out.2
      refine lf_list hN.own hN.len (by rw [List.length_append, HX.out.2.1]; simp) (fun g hg => by have := (hN.own.lt g hg).1; omega) hN.hb (fun i x y hx hy => (hN.hr i x y hx hy).mono (fun k hk _ => hk.2.1))
theorem itemOf_any {w : World} {n : Nd} {u : Nv} (h : Nin w n u) : Calls Try.prog 17 #[.agg (nc n u).toArray] w (IoPst n w) := by
  by_cases k1 : n.k = 1
  · exact itemOf_path h (Or.inl k1)
  · by_cases k2 : n.k = 2
    · exact itemOf_path h (Or.inr k2)
    · exact itemOf_branch h k1 k2
end Go.Proofs.Ytpiinkfcaoaffaa
