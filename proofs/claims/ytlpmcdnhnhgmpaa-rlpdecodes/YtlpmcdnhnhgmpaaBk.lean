/-
  cairnlaw05.Back.
-/
import Derived.Test.YtlpmcdnhnhgmpaaOg
import Derived.Deep.RegionLaw
namespace Go.Proofs.Ytlpmcdnhnhgmpaa
open Go.RowKit

/-- what Back has laid ahead of its loop: the bytes copied (v), the item being made (at q) -/
structure Bk1 (w W' : World) (l : Bool) (b : List Nat) (v : Value) (q : Nat) (x1 x2 x3 : Value) (T T' : TypeId) : Prop where
  below : Below w.heap.size w W'
  own : W'.ownsRow (w.heap.size + 2) 5 1 v b.length (bv b)
  item : Bx W' q T' (.bool l) v (.slice none 0 0)
  box : Bx W' w.heap.size T x1 x2 x3
  res : Bx W' (w.heap.size + 1) T' (.bool false) (.slice none 0 0) (.slice none 0 0)
  lo : w.heap.size + 2 ≤ q
theorem Bk1.of_alloc {w W w1 : World} {l : Bool} {b : List Nat} {v x1 x2 x3 : Value} {T T' : TypeId} (bW : Below w.heap.size w W) (sW : W.heap.size = w.heap.size + 2) (xW : Bx W w.heap.size T x1 x2 x3) (rW : Bx W (w.heap.size + 1) T' (.bool false) (.slice none 0 0) (.slice none 0 0)) (bb : Below W.heap.size W w1) (own : w1.ownsRow W.heap.size 5 1 v b.length (bv b)) :
    Bk1 w (w1.alloc (.cells #[.bool l, v, .slice none 0 0] T')) l b v w1.heap.size x1 x2 x3 T T' := by
  have b1 := ch bb (below_alloc w1 (.cells #[.bool l, v, .slice none 0 0] T'))
  refine ⟨ch bW b1, ?_, heap_alloc_new _ _, xW.keep (b1.block _ xW.lt), rW.keep (b1.block _ rW.lt), by have := bb.size; omega⟩
  rw [← sW]
  exact own.alloc _
theorem Bk1.of_set {w W w1 : World} {l : Bool} {b : List Nat} {v x1 x2 x3 y1 y2 y3 : Value} {T T' : TypeId} {q : Nat} (bW : Below w.heap.size w W) (sW : W.heap.size = w.heap.size + 2) (xW : Bx W w.heap.size T x1 x2 x3) (rW : Bx W (w.heap.size + 1) T' (.bool false) (.slice none 0 0) (.slice none 0 0)) (bb : Below W.heap.size W w1) (own : w1.ownsRow W.heap.size 5 1 v b.length (bv b)) (hq : Bx w1 q T' y1 y2 y3) (hlo : W.heap.size ≤ q) (hT : T' ≠ 5) :
    Bk1 w (set3 w1 q (.bool l) v (.slice none 0 0)) l b v q x1 x2 x3 T T' := by
  have t1 := set3_turn w1 q (.bool l) v (.slice none 0 0)
  have b1 : Below W.heap.size W (set3 w1 q (.bool l) v (.slice none 0 0)) := bb.trans (t1.below (fun i e => by omega) bb.size)
  refine ⟨ch bW b1, ?_, hq.set3, xW.keep (b1.block _ xW.lt), rW.keep (b1.block _ rW.lt), by omega⟩
  rw [← sW]
  exact own_turn own t1 (fun g hg e => by
    subst e
    exact own_ne_cells own hq hT hg)
/-- so many of the items made -/
def BkR (T : TypeId) (ext : List Nat) (L q : Nat) (W' : World) (l : Bool) (vb : Value) (xs : List It) (j : Nat) (wz : World) : Prop := ∃ v2 ys s t, Gl T ext L q wz l vb v2 (xs.take j) ys s t ∧ Turn (fun k => k = q) W' wz
theorem bkSg0 {w W' : World} {l : Bool} {b : List Nat} {v : Value} {q : Nat} {x1 x2 x3 : Value} {T T' : TypeId} (h : Bk1 w W' l b v q x1 x2 x3 T T') (hx : ∀ x ∈ b, x < 256) (hl : b.length ≤ 140737488351232) : Sg [] W' (w.heap.size + 2) v b := sg_of_own h.own hx hl
theorem own_empty (W : World) (B : Nat) (h : B ≤ W.heap.size) : (W.alloc (.cells #[] 5)).ownsRow B 5 1 (.slice (some ⟨W.heap.size, 0, none⟩) 0 0) 0 [] := World.ownsRow_lit (base := B) (e := 5) (size := 1) W #[] 0 h (by decide) rfl

set_option maxRecDepth 100000 in
set_option maxHeartbeats 3200000 in
theorem back_any : ∀ (x : It) (w : World) (vb vi : Value), Lies Vb w x vb vi →
    Calls Try.prog 11 #[iv x.l vb vi] w fun e w' => ∃ vb' vi', e = .returned (iv x.l vb' vi') ∧ Og 34 [] w' w.heap.size w'.heap.size x vb' vi' ∧ Below w.heap.size w w' := by
  refine It.ind (fun l b xs ih => ?_)
  intro w vb vi h
  obtain ⟨a1, c1, a, c, blk, off, rfl, rfl, hB, hI⟩ := h.opened
  obtain ⟨a2, b2, off2, c2, e, hv, -, hnil, hbl⟩ := hB
  injection e with e1 _ e3
  subst e1
  subst e3
  show Calls Try.prog 11 #[iv l _ _] w _
  obtain ⟨n, en⟩ : ∃ n, n = xs.length := ⟨_, rfl⟩
  obtain ⟨nb, enb⟩ : ∃ n, n = b.length := ⟨_, rfl⟩
  have HN : Hid (n = xs.length ∧ nb = b.length) := ⟨en, enb⟩
  have hn := hI.hn
  rw [← enb] at hbl ⊢
  rw [← en] at hn ⊢
  obtain ⟨W, eW⟩ : ∃ W, W = (w.alloc (.cells #[.bool l, .slice a1 nb c1, .slice a n c] 25)).alloc (.cells #[.bool false, .slice none 0 0, .slice none 0 0] 34) := ⟨_, rfl⟩
  have sW : W.heap.size = w.heap.size + 2 := by rw [eW]; simp
  have bW : Below w.heap.size w W := by rw [eW]; exact ch (below_alloc _ _) (below_alloc _ _)
  have xW : Bx W w.heap.size 25 (.bool l) (.slice a1 nb c1) (.slice a n c) := by
    show _ = _
    rw [eW, heap_alloc_old _ _ (by simp)]
    exact heap_alloc_new _ _
  have rW : Bx W (w.heap.size + 1) 34 (.bool false) (.slice none 0 0) (.slice none 0 0) := by
    show _ = _
    rw [eW]
    have := heap_alloc_new (w.alloc (.cells #[.bool l, .slice a1 nb c1, .slice a n c] 25)) (.cells #[.bool false, .slice none 0 0, .slice none 0 0] 34)
    simpa using this
  have HW : Hid (W = (w.alloc (.cells #[.bool l, .slice a1 nb c1, .slice a n c] 25)).alloc (.cells #[.bool false, .slice none 0 0, .slice none 0 0] 34) ∧ W.heap.size = w.heap.size + 2 ∧ Below w.heap.size w W ∧ Bx W w.heap.size 25 (.bool l) (.slice a1 nb c1) (.slice a n c) ∧ Bx W (w.heap.size + 1) 34 (.bool false) (.slice none 0 0) (.slice none 0 0)) := ⟨eW, sW, bW, xW, rW⟩
  have HV : Hid (∀ w', Below W.heap.size W w' → View w' a1 b2 off2 nb (fun i => ((gd b i : Nat) : Int))) := fun w' k => by
    rw [enb]
    exact hv.below (ch bW k)
  have HNIL : Hid (a1 = none → c1 = 0) := hnil
  have HOK : Hid ((∀ x ∈ b, x < 256) ∧ b.length ≤ 140737488351232) := ⟨(vw_ok hv).2, by omega⟩
  have HS : Hid (∀ w', Below W.heap.size W w' → w'.cell? ⟨w.heap.size, 0, none⟩ = some (.bool l) ∧ w'.cell? ⟨w.heap.size, 1, none⟩ = some (.slice a1 nb c1)) := fun w' k => by
    have := (xW.keep (k.block _ xW.lt)).cells
    exact ⟨this.1, this.2.1⟩
  have HS3 : Hid (∀ w1 q x y z, Below W.heap.size W w1 → W.heap.size ≤ q → (set3 w1 q x y z).cell? ⟨w.heap.size, 0, none⟩ = some (.bool l) ∧ (set3 w1 q x y z).cell? ⟨w.heap.size, 1, none⟩ = some (.slice a1 nb c1)) := fun w1 q x y z k hq => HS.out _ (k.trans ((set3_turn w1 q x y z).below (fun i e => by omega) k.size))
  obtain ⟨x0, x1, x2, -⟩ := xW.cells
  clear hnil hv eW en enb bW xW rW h
  go_enter Try.func11, Try.ntmps11
  go_wp2_with fail
  rw [← HW.out.1]
  rename_i K hK _
  have hj : ∀ (u8 v : Value) (q : Nat) (W' : World), Bk1 w W' l b v q (.bool l) (.slice a1 nb c1) (.slice a n c) 25 34 → K { tmps := #[iv l (.slice a1 nb c1) (.slice a n c), .pointer (some ⟨w.heap.size, 0, none⟩), .pointer (some ⟨w.heap.size + 1, 0, none⟩), .pointer (some ⟨q, 0, none⟩), undef, undef, .pointer (some ⟨w.heap.size, 0, none⟩), .bool l, u8, .pointer (some ⟨w.heap.size, 1, none⟩), .slice a1 nb c1, v, .agg #[.bool l, v, .slice none 0 0], undef, undef, undef, undef, undef, undef, undef, undef, undef, undef, undef, undef, undef, undef, undef, undef], defers := [] } W' := by
    intro u8 v q W' h1
    obtain ⟨av, cv, ev⟩ := own_slice h1.own
    rw [← HN.out.2] at ev
    subst ev
    obtain ⟨L, eL⟩ : ∃ L, L = W'.heap.size := ⟨_, rfl⟩
    have HG0 : Hid (BkR 34 [] L q W' l (.slice av nb cv) xs 0 W') := ⟨_, _, _, _, Gl.start h1.item (by rw [eL]; exact h1.item.lt) (by omega), Turn.refl _ _⟩
    obtain ⟨b0, b1, b2, -⟩ := h1.box.cells
    have HH : Hid (Bk1 w W' l b (.slice av nb cv) q (.bool l) (.slice a1 nb c1) (.slice a n c) 25 34) := h1
    have HEL : Hid (L = W'.heap.size) := eL
    have HXS : Hid (Its Vb w xs a blk off) := hI
    obtain ⟨i25, hi0, hz0, hz1, hz2⟩ := info_parts infoItR
    have HI0 : Hid (Try.prog.info? 34 = some i25 ∧ i25.zero = some (.agg #[.bool false, .slice none 0 0, .slice none 0 0]) ∧ i25.size = 3 ∧ i25.bytes = 56) := ⟨hi0, hz0, hz1, hz2⟩
    refine hK _ _ ?_
    clear hK h1 eL hI hi0 hz0 hz1 hz2 x0 x1 x2 sW
    go_wp2_with fail
    go_loopg [16] n (fun gg k wr => ∃ (i : Nat), i ≤ n ∧ gg = n - i ∧ k = .int .i64 i ∧ BkR 34 [] L q W' l (.slice av nb cv) xs i wr)
    case atStart => exact ⟨0, Nat.zero_le _, rfl, rfl, HG0.out⟩
    case round =>
      clear b0 b1 b2 HG0
      obtain ⟨i, hi, rfl, rfl, v2, ys, s, t, hG, hT⟩ := hrel
      have hlen : (xs.take i).length = i := by rw [List.length_take]; have := HN.out.1; omega
      have HGG : Hid (Gl 34 [] L q wr l (.slice av nb cv) v2 (xs.take i) ys s t ∧ Turn (fun k => k = q) W' wr ∧ (xs.take i).length = i) := ⟨hG, hT, hlen⟩
      have hbw : Below w.heap.size w wr := HH.out.below.trans (hT.below (fun k e => by have := HH.out.lo; omega) HH.out.below.size)
      by_cases hin : i < n
      · have i1 : (i : Int) < (n : Int) := by omega
        obtain ⟨rfl, x, a1, n1, k1, a2, n2, k2, hx, hxm, d0, d1, d2, hL⟩ := HXS.out.nth hbw (i := i) (by have := HN.out.1; omega)
        obtain ⟨wA, eA⟩ : ∃ wA, wA = wr.alloc (.cells #[.bool x.l, .slice a1 n1 k1, .slice a2 n2 k2] 25) := ⟨_, rfl⟩
        have bA : Below wr.heap.size wr wA := by rw [eA]; exact below_alloc _ _
        have sA : wA.heap.size = wr.heap.size + 1 := by rw [eA]; simp
        have yA : Bx wA wr.heap.size 25 (.bool x.l) (.slice a1 n1 k1) (.slice a2 n2 k2) := by rw [eA]; exact heap_alloc_new _ _
        have HA : Hid (wA = wr.alloc (.cells #[.bool x.l, .slice a1 n1 k1, .slice a2 n2 k2] 25)) := eA
        have lq : q < wr.heap.size := hG.box.lt
        have HSY : Hid (∀ w', Below wA.heap.size wA w' → w'.cell? ⟨wr.heap.size, 0, none⟩ = some (.bool x.l) ∧ w'.cell? ⟨wr.heap.size, 1, none⟩ = some (.slice a1 n1 k1) ∧ w'.cell? ⟨wr.heap.size, 2, none⟩ = some (.slice a2 n2 k2)) := fun w' k => by
          have := (yA.keep (k.block _ yA.lt)).cells
          exact ⟨this.1, this.2.1, this.2.2.1⟩
        have HQ : Hid (∀ w', Below wA.heap.size wA w' → Bx w' q 34 (.bool l) (.slice av nb cv) v2) := fun w' k => hG.box.keep ((k.block _ (by omega)).trans (bA.block _ lq))
        have HOW : Hid (∀ w', Below wA.heap.size wA w' → w'.ownsRow L 34 3 v2 i (fl ys)) := fun w' k => by
          have := own_same hG.own (w' := w') (fun g hg => by have := (hG.own.lt g hg).2; exact (k.block g (by omega)).trans (bA.block g this))
          rw [hlen] at this
          exact this
        have HLS : Hid (L ≤ wA.heap.size) := by have := hG.ls; show L ≤ _; omega
        have HSZ : Hid (∀ (w9 : World) (v' : Value), (w9.cell? ⟨wr.heap.size, 0, none⟩ = some (.bool x.l) ∧ w9.cell? ⟨wr.heap.size, 1, none⟩ = some (.slice a1 n1 k1) ∧ w9.cell? ⟨wr.heap.size, 2, none⟩ = some (.slice a2 n2 k2)) → (w9.setCell ⟨q, 2, none⟩ v').cell? ⟨wr.heap.size, 0, none⟩ = some (.bool x.l) ∧ (w9.setCell ⟨q, 2, none⟩ v').cell? ⟨wr.heap.size, 1, none⟩ = some (.slice a1 n1 k1) ∧ (w9.setCell ⟨q, 2, none⟩ v').cell? ⟨wr.heap.size, 2, none⟩ = some (.slice a2 n2 k2)) := fun w9 v' h => by
          have f : ∀ j, (w9.setCell ⟨q, 2, none⟩ v').cell? ⟨wr.heap.size, j, none⟩ = w9.cell? ⟨wr.heap.size, j, none⟩ := fun j => World.cell?_setCell_far _ _ _ _ (by show q ≠ wr.heap.size; omega)
          rw [f, f, f]
          exact h
        have HQ9 : Hid (∀ (w3 : World), Below wA.heap.size wA w3 → ∀ (o : Obj) (w9 : World), (w3.alloc o).grownBy w9 v2.ownBlock → (w9.cell? ⟨wr.heap.size, 0, none⟩ = some (.bool x.l) ∧ w9.cell? ⟨wr.heap.size, 1, none⟩ = some (.slice a1 n1 k1) ∧ w9.cell? ⟨wr.heap.size, 2, none⟩ = some (.slice a2 n2 k2)) ∧ Bx w9 q 34 (.bool l) (.slice av nb cv) v2) := fun w3 h3 o w9 gr => by
          have z3 := h3.size
          have e : ∀ k, k < wA.heap.size → v2.ownBlock ≠ some k → w9.heap[k]? = wA.heap[k]? := fun k k1 k2 => by
            rw [gr.block k (by simp; omega) (fun z => k2 z.symm), heap_alloc_old _ _ (by omega)]
            exact h3.block k k1
          have hy := (yA.keep (e _ yA.lt (fun z => by have := (hG.own.lt _ z).2; omega))).cells
          exact ⟨⟨hy.1, hy.2.1, hy.2.2.1⟩, hG.box.keep ((e _ (by omega) (fun z => by have := (hG.own.lt _ z).1; have := hG.lq; omega)).trans (bA.block _ lq))⟩
        have HK : Hid (Calls Try.prog 11 #[iv x.l (.slice a1 n1 k1) (.slice a2 n2 k2)] wA.drew fun e w' => ∃ vb' vi', e = .returned (iv x.l vb' vi') ∧ Og 34 [] w' wA.drew.heap.size w'.heap.size x vb' vi' ∧ Below wA.drew.heap.size wA.drew w') := ih x hxm _ _ _ (hL.keep (ch bA ((Below.refl _ wA).drew)))
        have HREL : Hid (∀ (e1 : Option Addr) (m1 d1 : Nat) (e2 : Option Addr) (m2 d2 : Nat) (w3 : World) (g9 cap9 : Nat) (w9 : World), (Below wA.heap.size wA w3 ∧ Og 34 [] w3 wA.heap.size w3.heap.size x (.slice e1 m1 d1) (.slice e2 m2 d2) ∧ w9.ownsRow L 34 3 (.slice (some ⟨g9, 0, none⟩) (i + 1) cap9) (i + 1) (fl ys ++ [.bool x.l, .slice e1 m1 d1, .slice e2 m2 d2]) ∧ (w3.alloc (.cells #[.bool x.l, .slice e1 m1 d1, .slice e2 m2 d2] 34)).grownBy w9 v2.ownBlock ∧ (v2.ownBlock = some g9 ∨ w3.heap.size ≤ g9)) → BkR 34 [] L q W' l (.slice av nb cv) xs (i + 1) (w9.setCell ⟨q, 2, none⟩ (.slice (some ⟨g9, 0, none⟩) (i + 1) cap9))) := fun e1 m1 d1 e2 m2 d2 w3 g9 cap9 w9 ⟨r1, r2, r3, r4, r5⟩ => by
          have tk : xs.take (i + 1) = xs.take i ++ [x] := by
            obtain ⟨hi', rfl⟩ := List.getElem?_eq_some_iff.1 hx
            exact List.take_succ_eq_append_getElem hi'
          have hN := hG.next (ch bA r1) r2 (by omega) (Nat.le_refl _) (by rw [hlen]; exact r3) r4 (fun g hg => by
            have e : g9 = g := Option.some.inj hg
            subst e
            exact r5)
          obtain ⟨⟨s', t', hG'⟩, hk, hz⟩ := hN
          refine ⟨_, _, s', t', by rw [tk]; exact hG', ?_⟩
          have hos := r4
          refine ⟨(hos.os.trans (r1.os.trans bA.os)).trans hT.os, (hos.tape.trans (r1.tape.trans bA.tape)).trans hT.tape, (hos.output.trans (r1.output.trans bA.output)).trans hT.output, Nat.le_trans hT.size hz, fun k k1 k2 => ?_⟩
          rw [hk k (Nat.lt_of_lt_of_le k1 hT.size) k2 (fun z => by have := (hG.own.lt _ z).1; have := HEL.out; omega)]
          exact hT.block k k1 k2
        clear hG hT hbw hx hxm hL ih eA bA sA yA hlen
        go_wp2_with fail
        rw [← HA.out]
        refine wp_region_held_drew (S := fun w' => w'.cell? ⟨wr.heap.size, 0, none⟩ = some (.bool x.l) ∧ w'.cell? ⟨wr.heap.size, 1, none⟩ = some (.slice a1 n1 k1) ∧ w'.cell? ⟨wr.heap.size, 2, none⟩ = some (.slice a2 n2 k2)) (by kernel_rfl) (HSY.out _ (Below.drew (Below.refl _ _))) ?_
        intro hS
        change wpAnyH _ _ _ _ _ 8 _ _ _
        refine wpAnyH_take (i := 0) (v := ?_) (by simp only [List.getElem?_toArray, List.getElem?_cons_zero]; rfl) (by kernel_rfl) (by kernel_rfl) (by kernel_rfl) (by exact fun _ _ _ h => h) (Or.inl ⟨by rfl, ?_⟩) hS ?_
        rotate_left
        · intro w' hS'
          go_simp
          try with_reducible rfl
        try simp only [Act.put, List.setIfInBounds_toArray, List.set_cons_zero, List.set_cons_succ]
        refine wpAnyH_take (i := 2) (v := ?_) (by simp only [List.getElem?_toArray, List.getElem?_cons_zero, List.getElem?_cons_succ]; rfl) (by kernel_rfl) (by kernel_rfl) (by kernel_rfl) (by exact fun _ _ _ h => h) (Or.inl ⟨by rfl, ?_⟩) hS ?_
        rotate_left
        · intro w' hS'
          obtain ⟨y0, y1, y2⟩ := hS'
          go_simp
          try with_reducible rfl
        try simp only [Act.put, List.setIfInBounds_toArray, List.set_cons_zero, List.set_cons_succ]
        refine wpAnyH_ready (rs := [1, 3]) (by kernel_rfl) (by simp) ?_
        refine AllReadyH.cons (by simp only [List.getElem?_toArray, List.getElem?_cons_zero, List.getElem?_cons_succ]; rfl) (fun K hK => ?_) (AllReadyH.cons (by simp only [List.getElem?_toArray, List.getElem?_cons_zero, List.getElem?_cons_succ]; rfl) (fun K hK => ?_) AllReadyH.nil)
        · obtain ⟨-, -, cq, -⟩ := (HQ.out wA.drew (Below.drew (Below.refl _ _))).cells
          go_simp
          refine hK.out _ _ (HSY.out _ (Below.drew (Below.refl _ _))) (fun hS => ?_)
          clear hK K cq
          try simp only [Act.put, List.setIfInBounds_toArray, List.set_cons_zero, List.set_cons_succ]
          refine wpAnyH_ready (rs := [3]) (by kernel_rfl) (by simp) ?_
          refine AllReadyH.cons (by simp only [List.getElem?_toArray, List.getElem?_cons_zero, List.getElem?_cons_succ]; rfl) (fun K hK => ?_) AllReadyH.nil
          go_simp
          refine HK.out.mono ?_
          rintro _ w3 ⟨vy, vz, rfl, ho3, hb3⟩
          obtain ⟨e1, m1, d1, e2, m2, d2, rfl, rfl⟩ := ho3.lies.form
          have Hb3 : Hid (Below wA.heap.size wA w3) := ch (Below.drew (Below.refl _ _)) hb3
          have Ho3 : Hid (Og 34 [] w3 wA.heap.size w3.heap.size x (.slice e1 m1 d1) (.slice e2 m2 d2)) := ho3
          clear hb3 ho3
          refine hK.out _ _ (HSY.out _ Hb3.out) (fun hS => ?_)
          clear hK K
          try simp only [Act.put, List.setIfInBounds_toArray, List.set_cons_zero, List.set_cons_succ]
          refine wpAnyH_ready (rs := [4]) (by kernel_rfl) (by simp) ?_
          refine AllReadyH.cons (by simp only [List.getElem?_toArray, List.getElem?_cons_zero, List.getElem?_cons_succ]; rfl) (fun K hK => ?_) AllReadyH.nil
          go_simp
          refine hK.out _ _ (HSY.out _ (ch Hb3.out (below_alloc _ _))) (fun hS => ?_)
          clear hK K
          try simp only [Act.put, List.setIfInBounds_toArray, List.set_cons_zero, List.set_cons_succ]
          refine wpAnyH_ready (rs := [5]) (by kernel_rfl) (by simp) ?_
          refine AllReadyH.cons (by simp only [List.getElem?_toArray, List.getElem?_cons_zero, List.getElem?_cons_succ]; rfl) (fun K hK => ?_) AllReadyH.nil
          have own4 := HOW.out _ (ch Hb3.out (below_alloc w3 (.cells #[.bool x.l, .slice e1 m1 d1, .slice e2 m2 d2] 34)))
          have nw := World.news_of_block (w := w3.alloc (.cells #[.bool x.l, .slice e1 m1 d1, .slice e2 m2 d2] 34)) (B := w3.heap.size) (cs := #[.bool x.l, .slice e1 m1 d1, .slice e2 m2 d2]) (t := 34) (fr := (0, 0)) (heap_alloc_new _ _)
          refine step_append_lies _ (by rfl) (.tmp 21) (.tmp 24) 32 (by rfl) L 34 i25 _ 3 56 Try.underlying32 HI0.out.1 HI0.out.2.1 HI0.out.2.2.1 HI0.out.2.2.2 (by rfl) (by decide) v2 i (fl ys) (by rfl) own4 ⟨w3.heap.size, 0, none⟩ 1 1 [.bool x.l, .slice e1 m1 d1, .slice e2 m2 d2] (by rfl) (by rfl) nw (by simp [Value.oneCell']) (by decide) (by unfold maxLen; omega) (by omega) (by have := HLS.out; have := Hb3.out.size; simp; omega) _ (by rfl) ?_
          intro g9 cap9 w9 own9 gr9 at9 lt9
          have Hg9 : Hid (w9.ownsRow L 34 3 (.slice (some ⟨g9, 0, none⟩) (i + 1) cap9) (i + 1) (fl ys ++ [.bool x.l, .slice e1 m1 d1, .slice e2 m2 d2]) ∧ (w3.alloc (.cells #[.bool x.l, .slice e1 m1 d1, .slice e2 m2 d2] 34)).grownBy w9 v2.ownBlock ∧ (v2.ownBlock = some g9 ∨ w3.heap.size ≤ g9)) := ⟨own9, gr9, by rcases at9 with z | z; exact Or.inl z; right; rw [z]; simp⟩
          have hq9 := HQ9.out w3 Hb3.out _ w9 gr9
          obtain ⟨p0, p1, p2, pf⟩ := hq9.2.cells
          have pf2 := pf 2
          refine hK.out _ _ hq9.1 (fun hS => ?_)
          clear hK K own9 gr9 at9 lt9 own4 nw pf
          try simp only [Act.put, List.setIfInBounds_toArray, List.set_cons_zero, List.set_cons_succ]
          refine wpAnyH_take (i := 6) (v := ?_) (by simp only [List.getElem?_toArray, List.getElem?_cons_zero, List.getElem?_cons_succ]; rfl) (by kernel_rfl) (by kernel_rfl) (by kernel_rfl) (by exact fun _ _ _ h => h) (Or.inl ⟨by rfl, ?_⟩) hS ?_
          rotate_left
          · intro w' hS'
            go_simp
            try with_reducible rfl
          try simp only [Act.put, List.setIfInBounds_toArray, List.set_cons_zero, List.set_cons_succ]
          refine wpAnyH_ready (rs := [7]) (by kernel_rfl) (by simp) ?_
          refine AllReadyH.cons (by simp only [List.getElem?_toArray, List.getElem?_cons_zero, List.getElem?_cons_succ]; rfl) (fun K hK => ?_) AllReadyH.nil
          go_simp
          refine hK.out _ _ (HSZ.out _ _ hq9.1) (fun hS => ?_)
          clear hK K
          refine wpAnyH_done (by kernel_rfl) ?_ _
          try simp only [Act.put, List.setIfInBounds_toArray, List.set_cons_zero, List.set_cons_succ]
          have HN9 := HREL.out _ _ _ _ _ _ _ _ _ _ ⟨Hb3.out, Ho3.out, Hg9.out.1, Hg9.out.2.1, Hg9.out.2.2⟩
          have HN8 : Hid (BkR 34 [] L q W' l (.slice av nb cv) xs (i + 1) (w9.setCell ⟨q, 2, none⟩ (.slice (some ⟨g9, 0, none⟩) (i + 1) cap9))) := HN9
          clear HN9 Hg9 hq9 p0 p1 p2 pf2 hS
          go_wp2_with fail
          go_roundg (n - (i + 1))
          case measure => omega
          case rel => exact ⟨i + 1, hin, rfl, by go_num, HN8.out⟩
        · go_simp
          refine HK.out.mono ?_
          rintro _ w3 ⟨vy, vz, rfl, ho3, hb3⟩
          obtain ⟨e1, m1, d1, e2, m2, d2, rfl, rfl⟩ := ho3.lies.form
          have Hb3 : Hid (Below wA.heap.size wA w3) := ch (Below.drew (Below.refl _ _)) hb3
          have Ho3 : Hid (Og 34 [] w3 wA.heap.size w3.heap.size x (.slice e1 m1 d1) (.slice e2 m2 d2)) := ho3
          clear hb3 ho3
          refine hK.out _ _ (HSY.out _ Hb3.out) (fun hS => ?_)
          clear hK K
          try simp only [Act.put, List.setIfInBounds_toArray, List.set_cons_zero, List.set_cons_succ]
          refine wpAnyH_ready (rs := [1, 4]) (by kernel_rfl) (by simp) ?_
          refine AllReadyH.cons (by simp only [List.getElem?_toArray, List.getElem?_cons_zero, List.getElem?_cons_succ]; rfl) (fun K hK => ?_) (AllReadyH.cons (by simp only [List.getElem?_toArray, List.getElem?_cons_zero, List.getElem?_cons_succ]; rfl) (fun K hK => ?_) AllReadyH.nil)
          · obtain ⟨-, -, cq, -⟩ := (HQ.out w3 (Hb3.out)).cells
            go_simp
            refine hK.out _ _ (HSY.out _ (Hb3.out)) (fun hS => ?_)
            clear hK K cq
            try simp only [Act.put, List.setIfInBounds_toArray, List.set_cons_zero, List.set_cons_succ]
            refine wpAnyH_ready (rs := [4]) (by kernel_rfl) (by simp) ?_
            refine AllReadyH.cons (by simp only [List.getElem?_toArray, List.getElem?_cons_zero, List.getElem?_cons_succ]; rfl) (fun K hK => ?_) AllReadyH.nil
            go_simp
            refine hK.out _ _ (HSY.out _ (ch Hb3.out (below_alloc _ _))) (fun hS => ?_)
            clear hK K
            try simp only [Act.put, List.setIfInBounds_toArray, List.set_cons_zero, List.set_cons_succ]
            refine wpAnyH_ready (rs := [5]) (by kernel_rfl) (by simp) ?_
            refine AllReadyH.cons (by simp only [List.getElem?_toArray, List.getElem?_cons_zero, List.getElem?_cons_succ]; rfl) (fun K hK => ?_) AllReadyH.nil
            have own4 := HOW.out _ (ch Hb3.out (below_alloc w3 (.cells #[.bool x.l, .slice e1 m1 d1, .slice e2 m2 d2] 34)))
            have nw := World.news_of_block (w := w3.alloc (.cells #[.bool x.l, .slice e1 m1 d1, .slice e2 m2 d2] 34)) (B := w3.heap.size) (cs := #[.bool x.l, .slice e1 m1 d1, .slice e2 m2 d2]) (t := 34) (fr := (0, 0)) (heap_alloc_new _ _)
            refine step_append_lies _ (by rfl) (.tmp 21) (.tmp 24) 32 (by rfl) L 34 i25 _ 3 56 Try.underlying32 HI0.out.1 HI0.out.2.1 HI0.out.2.2.1 HI0.out.2.2.2 (by rfl) (by decide) v2 i (fl ys) (by rfl) own4 ⟨w3.heap.size, 0, none⟩ 1 1 [.bool x.l, .slice e1 m1 d1, .slice e2 m2 d2] (by rfl) (by rfl) nw (by simp [Value.oneCell']) (by decide) (by unfold maxLen; omega) (by omega) (by have := HLS.out; have := Hb3.out.size; simp; omega) _ (by rfl) ?_
            intro g9 cap9 w9 own9 gr9 at9 lt9
            have Hg9 : Hid (w9.ownsRow L 34 3 (.slice (some ⟨g9, 0, none⟩) (i + 1) cap9) (i + 1) (fl ys ++ [.bool x.l, .slice e1 m1 d1, .slice e2 m2 d2]) ∧ (w3.alloc (.cells #[.bool x.l, .slice e1 m1 d1, .slice e2 m2 d2] 34)).grownBy w9 v2.ownBlock ∧ (v2.ownBlock = some g9 ∨ w3.heap.size ≤ g9)) := ⟨own9, gr9, by rcases at9 with z | z; exact Or.inl z; right; rw [z]; simp⟩
            have hq9 := HQ9.out w3 Hb3.out _ w9 gr9
            obtain ⟨p0, p1, p2, pf⟩ := hq9.2.cells
            have pf2 := pf 2
            refine hK.out _ _ hq9.1 (fun hS => ?_)
            clear hK K own9 gr9 at9 lt9 own4 nw pf
            try simp only [Act.put, List.setIfInBounds_toArray, List.set_cons_zero, List.set_cons_succ]
            refine wpAnyH_take (i := 6) (v := ?_) (by simp only [List.getElem?_toArray, List.getElem?_cons_zero, List.getElem?_cons_succ]; rfl) (by kernel_rfl) (by kernel_rfl) (by kernel_rfl) (by exact fun _ _ _ h => h) (Or.inl ⟨by rfl, ?_⟩) hS ?_
            rotate_left
            · intro w' hS'
              go_simp
              try with_reducible rfl
            try simp only [Act.put, List.setIfInBounds_toArray, List.set_cons_zero, List.set_cons_succ]
            refine wpAnyH_ready (rs := [7]) (by kernel_rfl) (by simp) ?_
            refine AllReadyH.cons (by simp only [List.getElem?_toArray, List.getElem?_cons_zero, List.getElem?_cons_succ]; rfl) (fun K hK => ?_) AllReadyH.nil
            go_simp
            refine hK.out _ _ (HSZ.out _ _ hq9.1) (fun hS => ?_)
            clear hK K
            refine wpAnyH_done (by kernel_rfl) ?_ _
            try simp only [Act.put, List.setIfInBounds_toArray, List.set_cons_zero, List.set_cons_succ]
            have HN9 := HREL.out _ _ _ _ _ _ _ _ _ _ ⟨Hb3.out, Ho3.out, Hg9.out.1, Hg9.out.2.1, Hg9.out.2.2⟩
            have HN8 : Hid (BkR 34 [] L q W' l (.slice av nb cv) xs (i + 1) (w9.setCell ⟨q, 2, none⟩ (.slice (some ⟨g9, 0, none⟩) (i + 1) cap9))) := HN9
            clear HN9 Hg9 hq9 p0 p1 p2 pf2 hS
            go_wp2_with fail
            go_roundg (n - (i + 1))
            case measure => omega
            case rel => exact ⟨i + 1, hin, rfl, by go_num, HN8.out⟩
          · go_simp
            refine hK.out _ _ (HSY.out _ (ch Hb3.out (below_alloc _ _))) (fun hS => ?_)
            clear hK K
            try simp only [Act.put, List.setIfInBounds_toArray, List.set_cons_zero, List.set_cons_succ]
            refine wpAnyH_ready (rs := [1]) (by kernel_rfl) (by simp) ?_
            refine AllReadyH.cons (by simp only [List.getElem?_toArray, List.getElem?_cons_zero, List.getElem?_cons_succ]; rfl) (fun K hK => ?_) AllReadyH.nil
            obtain ⟨-, -, cq, -⟩ := (HQ.out (w3.alloc (.cells #[.bool x.l, .slice e1 m1 d1, .slice e2 m2 d2] 34)) (ch Hb3.out (below_alloc _ _))).cells
            go_simp
            refine hK.out _ _ (HSY.out _ (ch Hb3.out (below_alloc _ _))) (fun hS => ?_)
            clear hK K cq
            try simp only [Act.put, List.setIfInBounds_toArray, List.set_cons_zero, List.set_cons_succ]
            refine wpAnyH_ready (rs := [5]) (by kernel_rfl) (by simp) ?_
            refine AllReadyH.cons (by simp only [List.getElem?_toArray, List.getElem?_cons_zero, List.getElem?_cons_succ]; rfl) (fun K hK => ?_) AllReadyH.nil
            have own4 := HOW.out _ (ch Hb3.out (below_alloc w3 (.cells #[.bool x.l, .slice e1 m1 d1, .slice e2 m2 d2] 34)))
            have nw := World.news_of_block (w := w3.alloc (.cells #[.bool x.l, .slice e1 m1 d1, .slice e2 m2 d2] 34)) (B := w3.heap.size) (cs := #[.bool x.l, .slice e1 m1 d1, .slice e2 m2 d2]) (t := 34) (fr := (0, 0)) (heap_alloc_new _ _)
            refine step_append_lies _ (by rfl) (.tmp 21) (.tmp 24) 32 (by rfl) L 34 i25 _ 3 56 Try.underlying32 HI0.out.1 HI0.out.2.1 HI0.out.2.2.1 HI0.out.2.2.2 (by rfl) (by decide) v2 i (fl ys) (by rfl) own4 ⟨w3.heap.size, 0, none⟩ 1 1 [.bool x.l, .slice e1 m1 d1, .slice e2 m2 d2] (by rfl) (by rfl) nw (by simp [Value.oneCell']) (by decide) (by unfold maxLen; omega) (by omega) (by have := HLS.out; have := Hb3.out.size; simp; omega) _ (by rfl) ?_
            intro g9 cap9 w9 own9 gr9 at9 lt9
            have Hg9 : Hid (w9.ownsRow L 34 3 (.slice (some ⟨g9, 0, none⟩) (i + 1) cap9) (i + 1) (fl ys ++ [.bool x.l, .slice e1 m1 d1, .slice e2 m2 d2]) ∧ (w3.alloc (.cells #[.bool x.l, .slice e1 m1 d1, .slice e2 m2 d2] 34)).grownBy w9 v2.ownBlock ∧ (v2.ownBlock = some g9 ∨ w3.heap.size ≤ g9)) := ⟨own9, gr9, by rcases at9 with z | z; exact Or.inl z; right; rw [z]; simp⟩
            have hq9 := HQ9.out w3 Hb3.out _ w9 gr9
            obtain ⟨p0, p1, p2, pf⟩ := hq9.2.cells
            have pf2 := pf 2
            refine hK.out _ _ hq9.1 (fun hS => ?_)
            clear hK K own9 gr9 at9 lt9 own4 nw pf
            try simp only [Act.put, List.setIfInBounds_toArray, List.set_cons_zero, List.set_cons_succ]
            refine wpAnyH_take (i := 6) (v := ?_) (by simp only [List.getElem?_toArray, List.getElem?_cons_zero, List.getElem?_cons_succ]; rfl) (by kernel_rfl) (by kernel_rfl) (by kernel_rfl) (by exact fun _ _ _ h => h) (Or.inl ⟨by rfl, ?_⟩) hS ?_
            rotate_left
            · intro w' hS'
              go_simp
              try with_reducible rfl
            try simp only [Act.put, List.setIfInBounds_toArray, List.set_cons_zero, List.set_cons_succ]
            refine wpAnyH_ready (rs := [7]) (by kernel_rfl) (by simp) ?_
            refine AllReadyH.cons (by simp only [List.getElem?_toArray, List.getElem?_cons_zero, List.getElem?_cons_succ]; rfl) (fun K hK => ?_) AllReadyH.nil
            go_simp
            refine hK.out _ _ (HSZ.out _ _ hq9.1) (fun hS => ?_)
            clear hK K
            refine wpAnyH_done (by kernel_rfl) ?_ _
            try simp only [Act.put, List.setIfInBounds_toArray, List.set_cons_zero, List.set_cons_succ]
            have HN9 := HREL.out _ _ _ _ _ _ _ _ _ _ ⟨Hb3.out, Ho3.out, Hg9.out.1, Hg9.out.2.1, Hg9.out.2.2⟩
            have HN8 : Hid (BkR 34 [] L q W' l (.slice av nb cv) xs (i + 1) (w9.setCell ⟨q, 2, none⟩ (.slice (some ⟨g9, 0, none⟩) (i + 1) cap9))) := HN9
            clear HN9 Hg9 hq9 p0 p1 p2 pf2 hS
            go_wp2_with fail
            go_roundg (n - (i + 1))
            case measure => omega
            case rel => exact ⟨i + 1, hin, rfl, by go_num, HN8.out⟩
      · have i1 : ¬ (i : Int) < (n : Int) := by omega
        have ei : i = n := by omega
        subst ei
        have et : xs.take i = xs := List.take_of_length_le (by have := HN.out.1; omega)
        obtain ⟨g0, g1, g2, -⟩ := hG.box.cells
        have rr : Bx wr (w.heap.size + 1) 34 (.bool false) (.slice none 0 0) (.slice none 0 0) := HH.out.res.keep (hT.block _ HH.out.res.lt (by have := HH.out.lo; omega))
        obtain ⟨r0, r1, r2, rf⟩ := rr.cells
        have rf0 := rf 0
        have rf1 := rf 1
        have rf2 := rf 2
        obtain ⟨avv, cvv, evv⟩ := own_slice hG.own
        subst evv
        rw [hlen] at g2
        have HBW : Hid (Below w.heap.size w wr) := hbw
        clear hG hT rr rf ih hbw
        go_wp2_with fail
        have t3 := set3_turn wr (w.heap.size + 1) (.bool l) (.slice av nb cv) (.slice avv i cvv)
        have hG := HGG.out.1
        have hlo := HH.out.lo
        refine bodyPost_ret (res1 rfl _ _ (w.heap.size + 1) _ rfl (loadVar34 (set3_cells r0 r1 r2).1 (set3_cells r0 r1 r2).2.1 (set3_cells r0 r1 r2).2.2)) rfl ?_
        refine ⟨_, _, rfl, ?_, HBW.out.trans (t3.below (fun k e => by omega) HBW.out.size)⟩
        have hs : Sg [] wr (w.heap.size + 2) (.slice av nb cv) b := (bkSg0 HH.out HOK.out.1 HOK.out.2).same (fun k hk => by
          have hb := (bkSg0 HH.out HOK.out.1 HOK.out.2).block hk
          refine HGG.out.2.1.block k hb.2.1 (fun e => ?_)
          obtain ⟨cur, hc⟩ := hb.2.2
          have h2 := HH.out.item
          rw [← e] at h2
          have := hc.symm.trans h2
          injection this with this
          injection this with _ this
          exact absurd this (by decide))
        rw [et] at hG
        have hd := hG.done hs (by have := HEL.out; have := HH.out.item.lt; omega) (by have := HN.out.1; omega)
        rw [← HN.out.1] at hd
        exact (hd.same (fun k k1 k2 => t3.block k k2 (by omega))).wide (by omega) (by simp)
  clear hK
  have HJ : Hid (∀ (u8 v : Value) (q : Nat) (W' : World), Bk1 w W' l b v q (.bool l) (.slice a1 nb c1) (.slice a n c) 25 34 → K { tmps := #[iv l (.slice a1 nb c1) (.slice a n c), .pointer (some ⟨w.heap.size, 0, none⟩), .pointer (some ⟨w.heap.size + 1, 0, none⟩), .pointer (some ⟨q, 0, none⟩), undef, undef, .pointer (some ⟨w.heap.size, 0, none⟩), .bool l, u8, .pointer (some ⟨w.heap.size, 1, none⟩), .slice a1 nb c1, v, .agg #[.bool l, v, .slice none 0 0], undef, undef, undef, undef, undef, undef, undef, undef, undef, undef, undef, undef, undef, undef, undef, undef], defers := [] } W') := hj
  clear hj ih hI sW
  have O1 : Hid ((W.alloc (.cells #[] 5)).drew.ownsRow W.heap.size 5 1 (.slice (some ⟨W.heap.size, 0, none⟩) 0 0) 0 []) := own_empty W _ (Nat.le_refl _)
  have O2 : Hid (((W.alloc (.cells #[] 5)).alloc (.cells #[.bool false, .slice none 0 0, .slice none 0 0] 34)).drew.ownsRow W.heap.size 5 1 (.slice (some ⟨W.heap.size, 0, none⟩) 0 0) 0 []) := (own_empty W _ (Nat.le_refl _)).alloc _
  have O3 : Hid (((W.alloc (.cells #[.bool false, .slice none 0 0, .slice none 0 0] 34)).alloc (.cells #[] 5)).drew.ownsRow W.heap.size 5 1 (.slice (some ⟨W.heap.size + 1, 0, none⟩) 0 0) 0 []) := by
    have := own_empty (W.alloc (.cells #[.bool false, .slice none 0 0, .slice none 0 0] 34)) W.heap.size (by simp)
    simp only [World.size_alloc] at this
    exact this
  have B1 : Hid (Below W.heap.size W (W.alloc (.cells #[] 5)).drew) := (below_alloc _ _).drew
  have B2 : Hid (Below W.heap.size W ((W.alloc (.cells #[] 5)).alloc (.cells #[.bool false, .slice none 0 0, .slice none 0 0] 34)).drew) := (ch (below_alloc _ _) (below_alloc _ _)).drew
  have B3 : Hid (Below W.heap.size W ((W.alloc (.cells #[.bool false, .slice none 0 0, .slice none 0 0] 34)).alloc (.cells #[] 5)).drew) := (ch (below_alloc _ _) (below_alloc _ _)).drew
  have Q2 : Hid (∀ w1, ((W.alloc (.cells #[] 5)).alloc (.cells #[.bool false, .slice none 0 0, .slice none 0 0] 34)).drew.grownBy w1 (Value.slice (some ⟨W.heap.size, 0, none⟩) 0 0).ownBlock → Bx w1 (W.heap.size + 1) 34 (.bool false) (.slice none 0 0) (.slice none 0 0)) := fun w1 gr => by
    show _ = _
    rw [gr.block _ (by simp) (fun e => by have e := Option.some.inj e; simp at e)]
    have := heap_alloc_new (W.alloc (.cells #[] 5)) (.cells #[.bool false, .slice none 0 0, .slice none 0 0] 34)
    simp only [World.size_alloc] at this
    exact this
  have Q3 : Hid (∀ w1, ((W.alloc (.cells #[.bool false, .slice none 0 0, .slice none 0 0] 34)).alloc (.cells #[] 5)).drew.grownBy w1 (Value.slice (some ⟨W.heap.size + 1, 0, none⟩) 0 0).ownBlock → Bx w1 W.heap.size 34 (.bool false) (.slice none 0 0) (.slice none 0 0)) := fun w1 gr => by
    show _ = _
    rw [gr.block _ (by simp; omega) (fun e => by have e := Option.some.inj e; simp at e)]
    exact (heap_alloc_old (W.alloc (.cells #[.bool false, .slice none 0 0, .slice none 0 0] 34)) _ (by simp)).trans (heap_alloc_new W _)
  go_region_held3 (fun w' => w'.cell? ⟨w.heap.size, 0, none⟩ = some (.bool l) ∧ w'.cell? ⟨w.heap.size, 1, none⟩ = some (.slice a1 nb c1))
    (first | (exact HS.out _ (by assumption)) | (exact HS.out _ (Below.drew (Below.refl _ _))) | (exact HS.out _ B1.out) | (exact HS.out _ B2.out) | (exact HS.out _ B3.out) | (exact HS.out _ (Below.drew (below_alloc _ _))) | (exact HS.out _ (ch (by assumption) (below_alloc _ _))) | (exact HS3.out _ _ _ _ _ (by assumption) (Nat.le_refl _)) | (exact HS3.out _ _ _ _ _ (by assumption) (Nat.le_succ _)))
    (first
      | (refine step_append_bytes (by rfl) (.tmp 8) (.tmp 10) (by rfl) W.heap.size _ 0 [] (by rfl) O1.out a1 b2 off2 nb c1 _ (by rfl) (HV.out _ B1.out) HNIL.out (by omega) (by simp) ?_; intro v1 w1 own1 gr1 nn1; obtain ⟨av, cv, ev⟩ := own_slice own1; subst ev; have bb1 : Below W.heap.size W w1 := B1.out.trans (grown_below gr1 O1.out (Nat.le_refl _) (by simp)))
      | (refine step_append_bytes (by rfl) (.tmp 8) (.tmp 10) (by rfl) W.heap.size _ 0 [] (by rfl) O2.out a1 b2 off2 nb c1 _ (by rfl) (HV.out _ B2.out) HNIL.out (by omega) (by simp; omega) ?_; intro v1 w1 own1 gr1 nn1; obtain ⟨av, cv, ev⟩ := own_slice own1; subst ev; have bb1 : Below W.heap.size W w1 := B2.out.trans (grown_below gr1 O2.out (Nat.le_refl _) (by simp; omega)); have hq : Bx w1 (W.heap.size + 1) 34 (.bool false) (.slice none 0 0) (.slice none 0 0) := Q2.out w1 gr1; obtain ⟨q0, q1, q2, qf⟩ := hq.cells; have qf0 := qf 0; have qf1 := qf 1; have qf2 := qf 2)
      | (refine step_append_bytes (by rfl) (.tmp 8) (.tmp 10) (by rfl) W.heap.size _ 0 [] (by rfl) O3.out a1 b2 off2 nb c1 _ (by rfl) (HV.out _ B3.out) HNIL.out (by omega) (by simp; omega) ?_; intro v1 w1 own1 gr1 nn1; obtain ⟨av, cv, ev⟩ := own_slice own1; subst ev; have bb1 : Below W.heap.size W w1 := B3.out.trans (grown_below gr1 O3.out (Nat.le_refl _) (by simp; omega)); have hq : Bx w1 W.heap.size 34 (.bool false) (.slice none 0 0) (.slice none 0 0) := Q3.out w1 gr1; obtain ⟨q0, q1, q2, qf⟩ := hq.cells; have qf0 := qf 0; have qf1 := qf 1; have qf2 := qf 2))
  · have own2 : w1.ownsRow W.heap.size 5 1 (.slice av nb cv) b.length (bv b) := by rw [← vals_bv b, ← HN.out.2]; simpa using own1
    exact HJ.out _ _ _ _ (Bk1.of_alloc HW.out.2.2.1 HW.out.2.1 HW.out.2.2.2.1 HW.out.2.2.2.2 bb1 own2)
  · have own2 : w1.ownsRow W.heap.size 5 1 (.slice av nb cv) b.length (bv b) := by rw [← vals_bv b, ← HN.out.2]; simpa using own1
    exact HJ.out _ _ _ _ (Bk1.of_set HW.out.2.2.1 HW.out.2.1 HW.out.2.2.2.1 HW.out.2.2.2.2 bb1 own2 hq (Nat.le_succ _) (by decide))
  · have own2 : w1.ownsRow W.heap.size 5 1 (.slice av nb cv) b.length (bv b) := by rw [← vals_bv b, ← HN.out.2]; simpa using own1
    exact HJ.out _ _ _ _ (Bk1.of_set HW.out.2.2.1 HW.out.2.1 HW.out.2.2.2.1 HW.out.2.2.2.2 bb1 own2 hq (Nat.le_refl _) (by decide))
end Go.Proofs.Ytlpmcdnhnhgmpaa
