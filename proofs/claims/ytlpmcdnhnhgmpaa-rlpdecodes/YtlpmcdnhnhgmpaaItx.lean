/-
  cairnlaw05.Item.
-/
import Derived.Test.YtlpmcdnhnhgmpaaBk
namespace Go.Proofs.Ytlpmcdnhnhgmpaa
open Go.RowKit

theorem vw_90 (w : World) : View (w.alloc (.cells #[.int .u8 90] 5)) (some ⟨w.heap.size, 0, none⟩) w.heap.size 0 1 (fun i => ((gd [90] i : Nat) : Int)) := vw_one w 90 (by omega)

theorem Sg.pre {ext : List Nat} {w : World} {lo : Nat} {v : Value} {b : List Nat} (h : Sg ext w lo v b) : w.ownsRow lo 5 1 v b.length (bv b) := by
  obtain ⟨a, c, rfl, ho, -, -⟩ := h
  have le : (b ++ ext).length = b.length + ext.length := List.length_append
  refine ⟨by rw [bv_len]; omega, ?_⟩
  rcases ho.2 with ⟨e, q⟩ | ⟨g, cap, cur, e, hB, hg, h1, h2, h3, h4⟩
  · injection e with e1 e2 e3
    subst e1
    subst e3
    left
    have : b.length = 0 := by omega
    exact ⟨by rw [this], this⟩
  · injection e with e1 e2 e3
    subst e1
    subst e3
    refine Or.inr ⟨g, c, cur, rfl, hB, hg, by omega, h2, h3, ?_⟩
    rw [Nat.mul_one] at h4 ⊢
    have : cur.toList.take b.length = (cur.toList.take (b ++ ext).length).take b.length := by rw [List.take_take, Nat.min_eq_left (by omega)]
    rw [this, h4, bv_app, List.take_append_of_le_length (by rw [bv_len]; omega), List.take_of_length_le (by rw [bv_len]; omega)]

set_option maxRecDepth 100000 in
set_option maxHeartbeats 3200000 in
theorem item_any : ∀ (x : It) (w : World) (vb vi : Value), Lies Vb w x vb vi →
    Calls Try.prog 13 #[iv x.l vb vi] w fun e w' => ∃ vb' vi', e = .returned (iv x.l vb' vi') ∧ Og 25 [90] w' w.heap.size w'.heap.size x vb' vi' ∧ Below w.heap.size w w' := by
  refine It.ind (fun l b xs ih => ?_)
  intro w vb vi h
  obtain ⟨a1, c1, a, c, blk, off, rfl, rfl, hB, hI⟩ := h.opened
  obtain ⟨a2, b2, off2, c2, e, hv, -, hnil, hbl⟩ := hB
  injection e with e1 _ e3
  subst e1
  subst e3
  show Calls Try.prog 13 #[iv l _ _] w _
  obtain ⟨n, en⟩ : ∃ n, n = xs.length := ⟨_, rfl⟩
  obtain ⟨nb, enb⟩ : ∃ n, n = b.length := ⟨_, rfl⟩
  have HN : Hid (n = xs.length ∧ nb = b.length) := ⟨en, enb⟩
  have hn := hI.hn
  rw [← enb] at hbl ⊢
  rw [← en] at hn ⊢
  obtain ⟨W, eW⟩ : ∃ W, W = (w.alloc (.cells #[.bool l, .slice a1 nb c1, .slice a n c] 34)).alloc (.cells #[.bool false, .slice none 0 0, .slice none 0 0] 25) := ⟨_, rfl⟩
  have sW : W.heap.size = w.heap.size + 2 := by rw [eW]; simp
  have bW : Below w.heap.size w W := by rw [eW]; exact ch (below_alloc _ _) (below_alloc _ _)
  have xW : Bx W w.heap.size 34 (.bool l) (.slice a1 nb c1) (.slice a n c) := by
    show _ = _
    rw [eW, heap_alloc_old _ _ (by simp)]
    exact heap_alloc_new _ _
  have rW : Bx W (w.heap.size + 1) 25 (.bool false) (.slice none 0 0) (.slice none 0 0) := by
    show _ = _
    rw [eW]
    have := heap_alloc_new (w.alloc (.cells #[.bool l, .slice a1 nb c1, .slice a n c] 34)) (.cells #[.bool false, .slice none 0 0, .slice none 0 0] 25)
    simpa using this
  have HW : Hid (W = (w.alloc (.cells #[.bool l, .slice a1 nb c1, .slice a n c] 34)).alloc (.cells #[.bool false, .slice none 0 0, .slice none 0 0] 25) ∧ W.heap.size = w.heap.size + 2 ∧ Below w.heap.size w W ∧ Bx W w.heap.size 34 (.bool l) (.slice a1 nb c1) (.slice a n c) ∧ Bx W (w.heap.size + 1) 25 (.bool false) (.slice none 0 0) (.slice none 0 0)) := ⟨eW, sW, bW, xW, rW⟩
  have HV0 : Hid (View (W.alloc (.cells #[] 5)) a1 b2 off2 nb (fun i => ((gd b i : Nat) : Int))) := by
    rw [enb]
    exact hv.below (ch bW (below_alloc _ _))
  have HNIL : Hid (a1 = none → c1 = 0) := hnil
  have HOK : Hid ((∀ x ∈ b, x < 256) ∧ b.length ≤ 140737488351232) := ⟨(vw_ok hv).2, by omega⟩
  have own0 := own_empty W W.heap.size (Nat.le_refl _)
  have HO0 : Hid ((W.alloc (.cells #[] 5)).ownsRow W.heap.size 5 1 (.slice (some ⟨W.heap.size, 0, none⟩) 0 0) 0 []) := own0
  obtain ⟨x0, x1, x2, -⟩ := (xW.keep ((below_alloc W (.cells #[] 5)).block _ xW.lt)).cells
  have HXS : Hid (Its Vb w xs a blk off) := hI
  clear hnil hv en enb bW xW rW h own0 hI
  clear eW sW
  go_enter Try.func13, Try.ntmps13
  go_upto_region 1 with fail
  rw [← HW.out.1]
  go_wp2_with (refine wpList_append_bytes (by rfl) (.tmp 7) (.tmp 9) (by rfl) W.heap.size _ 0 [] (by rfl) HO0.out a1 b2 off2 nb c1 _ (by rfl) HV0.out HNIL.out (by omega) (by simp) ?_)
  intro v1 w1 own1 gr1 nn1
  have bb1 : Below W.heap.size W w1 := (below_alloc _ _).trans (grown_below gr1 HO0.out (Nat.le_refl _) (by simp))
  have own2 : w1.ownsRow W.heap.size 5 1 v1 nb (bv b) := by rw [← vals_bv b, ← HN.out.2]; simpa using own1
  have HO1 : Hid ((w1.alloc (.cells #[.int .u8 90] 5)).ownsRow W.heap.size 5 1 v1 nb (bv b) ∧ Below W.heap.size W w1) := ⟨own2.alloc _, bb1⟩
  clear own1 own2 gr1 nn1 bb1 x0 x1 x2
  go_wp2_with (refine wpList_append_bytes (by rfl) (.tmp 10) (.tmp 11) (by rfl) W.heap.size v1 nb (bv b) (by rfl) HO1.out.1 (some ⟨w1.heap.size, 0, none⟩) w1.heap.size 0 1 1 _ (by rfl) (vw_90 w1) (fun h => by cases h) (by omega) (by have := HO1.out.2.size; simp; omega) ?_)
  intro v2 w2 own3 gr2 nn2
  have em : vals (fun i => ((gd [90] i : Nat) : Int)) 1 = bv [90] := vals_bv [90]
  rw [em, ← bv_app] at own3
  have bb2 : Below W.heap.size W w2 := (ch HO1.out.2 (below_alloc _ _)).trans (grown_below gr2 HO1.out.1 (Nat.le_refl _) (by have := HO1.out.2.size; simp; omega))
  obtain ⟨gv, cv, rfl, hgv, -⟩ := own3.form (by omega)
  have hcap : nb + 1 ≤ cv := by
    rcases own3.2 with ⟨e, _⟩ | ⟨g', cap', cur', e, _, _, h1, _⟩
    · cases e
    · injection e with _ _ e
      omega
  have sg3 : Sg [90] w2 (w.heap.size + 2) (.slice (some ⟨gv, 0, none⟩) nb cv) b := ⟨some ⟨gv, 0, none⟩, cv, by rw [HN.out.2], by
    have e1 : (b ++ [90]).length = nb + 1 := by rw [HN.out.2]; simp
    rw [e1, ← HW.out.2.1]
    exact own3, fun x hx => by
    rcases List.mem_append.1 hx with hx | hx
    · exact HOK.out.1 x hx
    · simp at hx; omega, HOK.out.2⟩
  have HSG2 : Hid (Sg [90] w2 (w.heap.size + 2) (.slice (some ⟨gv, 0, none⟩) nb cv) b ∧ Below W.heap.size W w2) := ⟨sg3, bb2⟩
  have HS : Hid (∀ w', Below w2.heap.size w2 w' → w'.cell? ⟨w.heap.size, 0, none⟩ = some (.bool l) ∧ w'.cell? ⟨w.heap.size, 1, none⟩ = some (.slice a1 nb c1)) := fun w' k => by
    have := (HW.out.2.2.2.1.keep ((ch HSG2.out.2 k).block _ HW.out.2.2.2.1.lt)).cells
    exact ⟨this.1, this.2.1⟩
  have j1 := slice_upto (some ⟨gv, 0, none⟩) (nb + 1) cv nb (by omega)
  clear own3 gr2 nn2 em bb2 hgv sg3 HO1 HO0 HV0
  go_wp2_with fail
  go_region_held3 (fun w' => w'.cell? ⟨w.heap.size, 0, none⟩ = some (.bool l) ∧ w'.cell? ⟨w.heap.size, 1, none⟩ = some (.slice a1 nb c1))
    (first | (exact HS.out _ (by assumption)) | (exact HS.out _ (Below.drew (Below.refl _ _))) | (exact HS.out _ (Below.drew (below_alloc _ _))) | (exact HS.out _ (below_alloc _ _)))
    (fail)
  obtain ⟨av, eav⟩ : ∃ av : Option Addr, av = some ⟨gv, 0, none⟩ := ⟨_, rfl⟩
  rw [← eav] at HSG2 ⊢
  clear eav j1
  obtain ⟨W', eW'⟩ : ∃ W', W' = (w2.alloc (.cells #[.bool l, .slice av nb cv, .slice none 0 0] 25)).drew := ⟨_, rfl⟩
  obtain ⟨q, eq⟩ : ∃ q, q = w2.heap.size := ⟨_, rfl⟩
  rw [← eW', ← eq]
  have bb3 : Below w2.heap.size w2 W' := by rw [eW']; exact (below_alloc _ _).drew
  have bb4 := ch HSG2.out.2 bb3
  have sg4 : Sg [90] W' (w.heap.size + 2) (.slice av nb cv) b := HSG2.out.1.same (fun k hk => bb3.block k (HSG2.out.1.block hk).2.1)
  have h1 : Bk1 w W' l b (.slice av nb cv) q (.bool l) (.slice a1 nb c1) (.slice a n c) 34 25 := ⟨ch HW.out.2.2.1 bb4, sg4.pre, by
    show _ = _
    rw [eW', eq]
    exact heap_alloc_new _ _, HW.out.2.2.2.1.keep (bb4.block _ HW.out.2.2.2.1.lt), HW.out.2.2.2.2.keep (bb4.block _ HW.out.2.2.2.2.lt), by
    have := HSG2.out.2.size
    have := HW.out.2.1
    omega⟩
  have HSG : Hid (Sg [90] W' (w.heap.size + 2) (.slice av nb cv) b) := sg4
  obtain ⟨L, eL⟩ : ∃ L, L = W'.heap.size := ⟨_, rfl⟩
  clear eW' eq bb3 bb4 sg4 hcap HS
  have HG0 : Hid (BkR 25 [90] L q W' l (.slice av nb cv) xs 0 W') := ⟨_, _, _, _, Gl.start h1.item (by rw [eL]; exact h1.item.lt) (by omega), Turn.refl _ _⟩
  obtain ⟨b0, b1, b2, -⟩ := h1.box.cells
  have HH : Hid (Bk1 w W' l b (.slice av nb cv) q (.bool l) (.slice a1 nb c1) (.slice a n c) 34 25) := h1
  have HEL : Hid (L = W'.heap.size) := eL
  obtain ⟨i25, hi0, hz0, hz1, hz2⟩ := info_parts infoIt
  have HI0 : Hid (Try.prog.info? 25 = some i25 ∧ i25.zero = some (.agg #[.bool false, .slice none 0 0, .slice none 0 0]) ∧ i25.size = 3 ∧ i25.bytes = 56) := ⟨hi0, hz0, hz1, hz2⟩
  clear h1 eL hi0 hz0 hz1 hz2
  go_wp2_with fail
  go_loopg [24] n (fun gg k wr => ∃ (i : Nat), i ≤ n ∧ gg = n - i ∧ k = .int .i64 i ∧ BkR 25 [90] L q W' l (.slice av nb cv) xs i wr)
  case atStart => exact ⟨0, Nat.zero_le _, rfl, rfl, HG0.out⟩
  case round =>
    clear b0 b1 b2 HG0
    obtain ⟨i, hi, rfl, rfl, v2, ys, s, t, hG, hT⟩ := hrel
    have hlen : (xs.take i).length = i := by rw [List.length_take]; have := HN.out.1; omega
    have HGG : Hid (Gl 25 [90] L q wr l (.slice av nb cv) v2 (xs.take i) ys s t ∧ Turn (fun k => k = q) W' wr ∧ (xs.take i).length = i) := ⟨hG, hT, hlen⟩
    have hbw : Below w.heap.size w wr := HH.out.below.trans (hT.below (fun k e => by have := HH.out.lo; omega) HH.out.below.size)
    by_cases hin : i < n
    · have i1 : (i : Int) < (n : Int) := by omega
      obtain ⟨rfl, x, a1, n1, k1, a2, n2, k2, hx, hxm, d0, d1, d2, hL⟩ := HXS.out.nth hbw (i := i) (by have := HN.out.1; omega)
      obtain ⟨wA, eA⟩ : ∃ wA, wA = wr.alloc (.cells #[.bool x.l, .slice a1 n1 k1, .slice a2 n2 k2] 34) := ⟨_, rfl⟩
      have bA : Below wr.heap.size wr wA := by rw [eA]; exact below_alloc _ _
      have sA : wA.heap.size = wr.heap.size + 1 := by rw [eA]; simp
      have yA : Bx wA wr.heap.size 34 (.bool x.l) (.slice a1 n1 k1) (.slice a2 n2 k2) := by rw [eA]; exact heap_alloc_new _ _
      have HA : Hid (wA = wr.alloc (.cells #[.bool x.l, .slice a1 n1 k1, .slice a2 n2 k2] 34)) := eA
      have lq : q < wr.heap.size := hG.box.lt
      have HSY : Hid (∀ w', Below wA.heap.size wA w' → w'.cell? ⟨wr.heap.size, 0, none⟩ = some (.bool x.l) ∧ w'.cell? ⟨wr.heap.size, 1, none⟩ = some (.slice a1 n1 k1) ∧ w'.cell? ⟨wr.heap.size, 2, none⟩ = some (.slice a2 n2 k2)) := fun w' k => by
        have := (yA.keep (k.block _ yA.lt)).cells
        exact ⟨this.1, this.2.1, this.2.2.1⟩
      have HQ : Hid (∀ w', Below wA.heap.size wA w' → Bx w' q 25 (.bool l) (.slice av nb cv) v2) := fun w' k => hG.box.keep ((k.block _ (by omega)).trans (bA.block _ lq))
      have HOW : Hid (∀ w', Below wA.heap.size wA w' → w'.ownsRow L 25 3 v2 i (fl ys)) := fun w' k => by
        have := own_same hG.own (w' := w') (fun g hg => by have := (hG.own.lt g hg).2; exact (k.block g (by omega)).trans (bA.block g this))
        rw [hlen] at this
        exact this
      have HLS : Hid (L ≤ wA.heap.size) := by have := hG.ls; show L ≤ _; omega
      have HSZ : Hid (∀ (w9 : World) (v' : Value), (w9.cell? ⟨wr.heap.size, 0, none⟩ = some (.bool x.l) ∧ w9.cell? ⟨wr.heap.size, 1, none⟩ = some (.slice a1 n1 k1) ∧ w9.cell? ⟨wr.heap.size, 2, none⟩ = some (.slice a2 n2 k2)) → (w9.setCell ⟨q, 2, none⟩ v').cell? ⟨wr.heap.size, 0, none⟩ = some (.bool x.l) ∧ (w9.setCell ⟨q, 2, none⟩ v').cell? ⟨wr.heap.size, 1, none⟩ = some (.slice a1 n1 k1) ∧ (w9.setCell ⟨q, 2, none⟩ v').cell? ⟨wr.heap.size, 2, none⟩ = some (.slice a2 n2 k2)) := fun w9 v' h => by
        have f : ∀ j, (w9.setCell ⟨q, 2, none⟩ v').cell? ⟨wr.heap.size, j, none⟩ = w9.cell? ⟨wr.heap.size, j, none⟩ := fun j => World.cell?_setCell_far _ _ _ _ (by show q ≠ wr.heap.size; omega)
        rw [f, f, f]
        exact h
      have HQ9 : Hid (∀ (w3 : World), Below wA.heap.size wA w3 → ∀ (o : Obj) (w9 : World), (w3.alloc o).grownBy w9 v2.ownBlock → (w9.cell? ⟨wr.heap.size, 0, none⟩ = some (.bool x.l) ∧ w9.cell? ⟨wr.heap.size, 1, none⟩ = some (.slice a1 n1 k1) ∧ w9.cell? ⟨wr.heap.size, 2, none⟩ = some (.slice a2 n2 k2)) ∧ Bx w9 q 25 (.bool l) (.slice av nb cv) v2) := fun w3 h3 o w9 gr => by
        have z3 := h3.size
        have e : ∀ k, k < wA.heap.size → v2.ownBlock ≠ some k → w9.heap[k]? = wA.heap[k]? := fun k k1 k2 => by
          rw [gr.block k (by simp; omega) (fun z => k2 z.symm), heap_alloc_old _ _ (by omega)]
          exact h3.block k k1
        have hy := (yA.keep (e _ yA.lt (fun z => by have := (hG.own.lt _ z).2; omega))).cells
        exact ⟨⟨hy.1, hy.2.1, hy.2.2.1⟩, hG.box.keep ((e _ (by omega) (fun z => by have := (hG.own.lt _ z).1; have := hG.lq; omega)).trans (bA.block _ lq))⟩
      have HK : Hid (Calls Try.prog 13 #[iv x.l (.slice a1 n1 k1) (.slice a2 n2 k2)] wA.drew fun e w' => ∃ vb' vi', e = .returned (iv x.l vb' vi') ∧ Og 25 [90] w' wA.drew.heap.size w'.heap.size x vb' vi' ∧ Below wA.drew.heap.size wA.drew w') := ih x hxm _ _ _ (hL.keep (ch bA ((Below.refl _ wA).drew)))
      have HREL : Hid (∀ (e1 : Option Addr) (m1 d1 : Nat) (e2 : Option Addr) (m2 d2 : Nat) (w3 : World) (g9 cap9 : Nat) (w9 : World), (Below wA.heap.size wA w3 ∧ Og 25 [90] w3 wA.heap.size w3.heap.size x (.slice e1 m1 d1) (.slice e2 m2 d2) ∧ w9.ownsRow L 25 3 (.slice (some ⟨g9, 0, none⟩) (i + 1) cap9) (i + 1) (fl ys ++ [.bool x.l, .slice e1 m1 d1, .slice e2 m2 d2]) ∧ (w3.alloc (.cells #[.bool x.l, .slice e1 m1 d1, .slice e2 m2 d2] 25)).grownBy w9 v2.ownBlock ∧ (v2.ownBlock = some g9 ∨ w3.heap.size ≤ g9)) → BkR 25 [90] L q W' l (.slice av nb cv) xs (i + 1) (w9.setCell ⟨q, 2, none⟩ (.slice (some ⟨g9, 0, none⟩) (i + 1) cap9))) := fun e1 m1 d1 e2 m2 d2 w3 g9 cap9 w9 ⟨r1, r2, r3, r4, r5⟩ => by
        have tk : xs.take (i + 1) = xs.take i ++ [x] := by
          obtain ⟨hi', rfl⟩ := List.getElem?_eq_some_iff.1 hx
          exact List.take_succ_eq_append_getElem hi'
        have hN := hG.next (ch bA r1) r2 (by omega) (Nat.le_refl _) (by rw [hlen]; exact r3) r4 (fun g hg => by
          have e : g9 = g := Option.some.inj hg
          subst e
          exact r5)
        obtain ⟨⟨s', t', hG'⟩, hk, hz⟩ := hN
        refine ⟨_, _, s', t', by rw [tk]; exact hG', ?_⟩
        have hos := r4
        refine ⟨(hos.os.trans (r1.os.trans bA.os)).trans hT.os, (hos.tape.trans (r1.tape.trans bA.tape)).trans hT.tape, (hos.output.trans (r1.output.trans bA.output)).trans hT.output, Nat.le_trans hT.size hz, fun k k1 k2 => ?_⟩
        rw [hk k (Nat.lt_of_lt_of_le k1 hT.size) k2 (fun z => by have := (hG.own.lt _ z).1; have := HEL.out; omega)]
        exact hT.block k k1 k2
      clear hG hT hbw hx hxm hL ih eA bA sA yA hlen
      go_wp2_with fail
      rw [← HA.out]
      refine wp_region_held_drew (S := fun w' => w'.cell? ⟨wr.heap.size, 0, none⟩ = some (.bool x.l) ∧ w'.cell? ⟨wr.heap.size, 1, none⟩ = some (.slice a1 n1 k1) ∧ w'.cell? ⟨wr.heap.size, 2, none⟩ = some (.slice a2 n2 k2)) (by kernel_rfl) (HSY.out _ (Below.drew (Below.refl _ _))) ?_
      intro hS
      change wpAnyH _ _ _ _ _ 8 _ _ _
      refine wpAnyH_take (i := 0) (v := ?_) (by simp only [List.getElem?_toArray, List.getElem?_cons_zero]; rfl) (by kernel_rfl) (by kernel_rfl) (by kernel_rfl) (by exact fun _ _ _ h => h) (Or.inl ⟨by rfl, ?_⟩) hS ?_
      rotate_left
      · intro w' hS'
        go_simp
        try with_reducible rfl
      try simp only [Act.put, List.setIfInBounds_toArray, List.set_cons_zero, List.set_cons_succ]
      refine wpAnyH_take (i := 2) (v := ?_) (by simp only [List.getElem?_toArray, List.getElem?_cons_zero, List.getElem?_cons_succ]; rfl) (by kernel_rfl) (by kernel_rfl) (by kernel_rfl) (by exact fun _ _ _ h => h) (Or.inl ⟨by rfl, ?_⟩) hS ?_
      rotate_left
      · intro w' hS'
        obtain ⟨y0, y1, y2⟩ := hS'
        go_simp
        try with_reducible rfl
      try simp only [Act.put, List.setIfInBounds_toArray, List.set_cons_zero, List.set_cons_succ]
      refine wpAnyH_ready (rs := [1, 3]) (by kernel_rfl) (by simp) ?_
      refine AllReadyH.cons (by simp only [List.getElem?_toArray, List.getElem?_cons_zero, List.getElem?_cons_succ]; rfl) (fun K hK => ?_) (AllReadyH.cons (by simp only [List.getElem?_toArray, List.getElem?_cons_zero, List.getElem?_cons_succ]; rfl) (fun K hK => ?_) AllReadyH.nil)
      · obtain ⟨-, -, cq, -⟩ := (HQ.out wA.drew (Below.drew (Below.refl _ _))).cells
        go_simp
        refine hK.out _ _ (HSY.out _ (Below.drew (Below.refl _ _))) (fun hS => ?_)
        clear hK K cq
        try simp only [Act.put, List.setIfInBounds_toArray, List.set_cons_zero, List.set_cons_succ]
        refine wpAnyH_ready (rs := [3]) (by kernel_rfl) (by simp) ?_
        refine AllReadyH.cons (by simp only [List.getElem?_toArray, List.getElem?_cons_zero, List.getElem?_cons_succ]; rfl) (fun K hK => ?_) AllReadyH.nil
        go_simp
        refine HK.out.mono ?_
        rintro _ w3 ⟨vy, vz, rfl, ho3, hb3⟩
        obtain ⟨e1, m1, d1, e2, m2, d2, rfl, rfl⟩ := ho3.lies.form
        have Hb3 : Hid (Below wA.heap.size wA w3) := ch (Below.drew (Below.refl _ _)) hb3
        have Ho3 : Hid (Og 25 [90] w3 wA.heap.size w3.heap.size x (.slice e1 m1 d1) (.slice e2 m2 d2)) := ho3
        clear hb3 ho3
        refine hK.out _ _ (HSY.out _ Hb3.out) (fun hS => ?_)
        clear hK K
        try simp only [Act.put, List.setIfInBounds_toArray, List.set_cons_zero, List.set_cons_succ]
        refine wpAnyH_ready (rs := [4]) (by kernel_rfl) (by simp) ?_
        refine AllReadyH.cons (by simp only [List.getElem?_toArray, List.getElem?_cons_zero, List.getElem?_cons_succ]; rfl) (fun K hK => ?_) AllReadyH.nil
        go_simp
        refine hK.out _ _ (HSY.out _ (ch Hb3.out (below_alloc _ _))) (fun hS => ?_)
        clear hK K
        try simp only [Act.put, List.setIfInBounds_toArray, List.set_cons_zero, List.set_cons_succ]
        refine wpAnyH_ready (rs := [5]) (by kernel_rfl) (by simp) ?_
        refine AllReadyH.cons (by simp only [List.getElem?_toArray, List.getElem?_cons_zero, List.getElem?_cons_succ]; rfl) (fun K hK => ?_) AllReadyH.nil
        have own4 := HOW.out _ (ch Hb3.out (below_alloc w3 (.cells #[.bool x.l, .slice e1 m1 d1, .slice e2 m2 d2] 25)))
        have nw := World.news_of_block (w := w3.alloc (.cells #[.bool x.l, .slice e1 m1 d1, .slice e2 m2 d2] 25)) (B := w3.heap.size) (cs := #[.bool x.l, .slice e1 m1 d1, .slice e2 m2 d2]) (t := 25) (fr := (0, 0)) (heap_alloc_new _ _)
        refine step_append_lies _ (by rfl) (.tmp 29) (.tmp 32) 23 (by rfl) L 25 i25 _ 3 56 Try.underlying23 HI0.out.1 HI0.out.2.1 HI0.out.2.2.1 HI0.out.2.2.2 (by rfl) (by decide) v2 i (fl ys) (by rfl) own4 ⟨w3.heap.size, 0, none⟩ 1 1 [.bool x.l, .slice e1 m1 d1, .slice e2 m2 d2] (by rfl) (by rfl) nw (by simp [Value.oneCell']) (by decide) (by unfold maxLen; omega) (by omega) (by have := HLS.out; have := Hb3.out.size; simp; omega) _ (by rfl) ?_
        intro g9 cap9 w9 own9 gr9 at9 lt9
        have Hg9 : Hid (w9.ownsRow L 25 3 (.slice (some ⟨g9, 0, none⟩) (i + 1) cap9) (i + 1) (fl ys ++ [.bool x.l, .slice e1 m1 d1, .slice e2 m2 d2]) ∧ (w3.alloc (.cells #[.bool x.l, .slice e1 m1 d1, .slice e2 m2 d2] 25)).grownBy w9 v2.ownBlock ∧ (v2.ownBlock = some g9 ∨ w3.heap.size ≤ g9)) := ⟨own9, gr9, by rcases at9 with z | z; exact Or.inl z; right; rw [z]; simp⟩
        have hq9 := HQ9.out w3 Hb3.out _ w9 gr9
        obtain ⟨p0, p1, p2, pf⟩ := hq9.2.cells
        have pf2 := pf 2
        refine hK.out _ _ hq9.1 (fun hS => ?_)
        clear hK K own9 gr9 at9 lt9 own4 nw pf
        try simp only [Act.put, List.setIfInBounds_toArray, List.set_cons_zero, List.set_cons_succ]
        refine wpAnyH_take (i := 6) (v := ?_) (by simp only [List.getElem?_toArray, List.getElem?_cons_zero, List.getElem?_cons_succ]; rfl) (by kernel_rfl) (by kernel_rfl) (by kernel_rfl) (by exact fun _ _ _ h => h) (Or.inl ⟨by rfl, ?_⟩) hS ?_
        rotate_left
        · intro w' hS'
          go_simp
          try with_reducible rfl
        try simp only [Act.put, List.setIfInBounds_toArray, List.set_cons_zero, List.set_cons_succ]
        refine wpAnyH_ready (rs := [7]) (by kernel_rfl) (by simp) ?_
        refine AllReadyH.cons (by simp only [List.getElem?_toArray, List.getElem?_cons_zero, List.getElem?_cons_succ]; rfl) (fun K hK => ?_) AllReadyH.nil
        go_simp
        refine hK.out _ _ (HSZ.out _ _ hq9.1) (fun hS => ?_)
        clear hK K
        refine wpAnyH_done (by kernel_rfl) ?_ _
        try simp only [Act.put, List.setIfInBounds_toArray, List.set_cons_zero, List.set_cons_succ]
        have HN9 := HREL.out _ _ _ _ _ _ _ _ _ _ ⟨Hb3.out, Ho3.out, Hg9.out.1, Hg9.out.2.1, Hg9.out.2.2⟩
        have HN8 : Hid (BkR 25 [90] L q W' l (.slice av nb cv) xs (i + 1) (w9.setCell ⟨q, 2, none⟩ (.slice (some ⟨g9, 0, none⟩) (i + 1) cap9))) := HN9
        clear HN9 Hg9 hq9 p0 p1 p2 pf2 hS
        go_wp2_with fail
        go_roundg (n - (i + 1))
        case measure => omega
        case rel => exact ⟨i + 1, hin, rfl, by go_num, HN8.out⟩
      · go_simp
        refine HK.out.mono ?_
        rintro _ w3 ⟨vy, vz, rfl, ho3, hb3⟩
        obtain ⟨e1, m1, d1, e2, m2, d2, rfl, rfl⟩ := ho3.lies.form
        have Hb3 : Hid (Below wA.heap.size wA w3) := ch (Below.drew (Below.refl _ _)) hb3
        have Ho3 : Hid (Og 25 [90] w3 wA.heap.size w3.heap.size x (.slice e1 m1 d1) (.slice e2 m2 d2)) := ho3
        clear hb3 ho3
        refine hK.out _ _ (HSY.out _ Hb3.out) (fun hS => ?_)
        clear hK K
        try simp only [Act.put, List.setIfInBounds_toArray, List.set_cons_zero, List.set_cons_succ]
        refine wpAnyH_ready (rs := [1, 4]) (by kernel_rfl) (by simp) ?_
        refine AllReadyH.cons (by simp only [List.getElem?_toArray, List.getElem?_cons_zero, List.getElem?_cons_succ]; rfl) (fun K hK => ?_) (AllReadyH.cons (by simp only [List.getElem?_toArray, List.getElem?_cons_zero, List.getElem?_cons_succ]; rfl) (fun K hK => ?_) AllReadyH.nil)
        · obtain ⟨-, -, cq, -⟩ := (HQ.out w3 (Hb3.out)).cells
          go_simp
          refine hK.out _ _ (HSY.out _ (Hb3.out)) (fun hS => ?_)
          clear hK K cq
          try simp only [Act.put, List.setIfInBounds_toArray, List.set_cons_zero, List.set_cons_succ]
          refine wpAnyH_ready (rs := [4]) (by kernel_rfl) (by simp) ?_
          refine AllReadyH.cons (by simp only [List.getElem?_toArray, List.getElem?_cons_zero, List.getElem?_cons_succ]; rfl) (fun K hK => ?_) AllReadyH.nil
          go_simp
          refine hK.out _ _ (HSY.out _ (ch Hb3.out (below_alloc _ _))) (fun hS => ?_)
          clear hK K
          try simp only [Act.put, List.setIfInBounds_toArray, List.set_cons_zero, List.set_cons_succ]
          refine wpAnyH_ready (rs := [5]) (by kernel_rfl) (by simp) ?_
          refine AllReadyH.cons (by simp only [List.getElem?_toArray, List.getElem?_cons_zero, List.getElem?_cons_succ]; rfl) (fun K hK => ?_) AllReadyH.nil
          have own4 := HOW.out _ (ch Hb3.out (below_alloc w3 (.cells #[.bool x.l, .slice e1 m1 d1, .slice e2 m2 d2] 25)))
          have nw := World.news_of_block (w := w3.alloc (.cells #[.bool x.l, .slice e1 m1 d1, .slice e2 m2 d2] 25)) (B := w3.heap.size) (cs := #[.bool x.l, .slice e1 m1 d1, .slice e2 m2 d2]) (t := 25) (fr := (0, 0)) (heap_alloc_new _ _)
          refine step_append_lies _ (by rfl) (.tmp 29) (.tmp 32) 23 (by rfl) L 25 i25 _ 3 56 Try.underlying23 HI0.out.1 HI0.out.2.1 HI0.out.2.2.1 HI0.out.2.2.2 (by rfl) (by decide) v2 i (fl ys) (by rfl) own4 ⟨w3.heap.size, 0, none⟩ 1 1 [.bool x.l, .slice e1 m1 d1, .slice e2 m2 d2] (by rfl) (by rfl) nw (by simp [Value.oneCell']) (by decide) (by unfold maxLen; omega) (by omega) (by have := HLS.out; have := Hb3.out.size; simp; omega) _ (by rfl) ?_
          intro g9 cap9 w9 own9 gr9 at9 lt9
          have Hg9 : Hid (w9.ownsRow L 25 3 (.slice (some ⟨g9, 0, none⟩) (i + 1) cap9) (i + 1) (fl ys ++ [.bool x.l, .slice e1 m1 d1, .slice e2 m2 d2]) ∧ (w3.alloc (.cells #[.bool x.l, .slice e1 m1 d1, .slice e2 m2 d2] 25)).grownBy w9 v2.ownBlock ∧ (v2.ownBlock = some g9 ∨ w3.heap.size ≤ g9)) := ⟨own9, gr9, by rcases at9 with z | z; exact Or.inl z; right; rw [z]; simp⟩
          have hq9 := HQ9.out w3 Hb3.out _ w9 gr9
          obtain ⟨p0, p1, p2, pf⟩ := hq9.2.cells
          have pf2 := pf 2
          refine hK.out _ _ hq9.1 (fun hS => ?_)
          clear hK K own9 gr9 at9 lt9 own4 nw pf
          try simp only [Act.put, List.setIfInBounds_toArray, List.set_cons_zero, List.set_cons_succ]
          refine wpAnyH_take (i := 6) (v := ?_) (by simp only [List.getElem?_toArray, List.getElem?_cons_zero, List.getElem?_cons_succ]; rfl) (by kernel_rfl) (by kernel_rfl) (by kernel_rfl) (by exact fun _ _ _ h => h) (Or.inl ⟨by rfl, ?_⟩) hS ?_
          rotate_left
          · intro w' hS'
            go_simp
            try with_reducible rfl
          try simp only [Act.put, List.setIfInBounds_toArray, List.set_cons_zero, List.set_cons_succ]
          refine wpAnyH_ready (rs := [7]) (by kernel_rfl) (by simp) ?_
          refine AllReadyH.cons (by simp only [List.getElem?_toArray, List.getElem?_cons_zero, List.getElem?_cons_succ]; rfl) (fun K hK => ?_) AllReadyH.nil
          go_simp
          refine hK.out _ _ (HSZ.out _ _ hq9.1) (fun hS => ?_)
          clear hK K
          refine wpAnyH_done (by kernel_rfl) ?_ _
          try simp only [Act.put, List.setIfInBounds_toArray, List.set_cons_zero, List.set_cons_succ]
          have HN9 := HREL.out _ _ _ _ _ _ _ _ _ _ ⟨Hb3.out, Ho3.out, Hg9.out.1, Hg9.out.2.1, Hg9.out.2.2⟩
          have HN8 : Hid (BkR 25 [90] L q W' l (.slice av nb cv) xs (i + 1) (w9.setCell ⟨q, 2, none⟩ (.slice (some ⟨g9, 0, none⟩) (i + 1) cap9))) := HN9
          clear HN9 Hg9 hq9 p0 p1 p2 pf2 hS
          go_wp2_with fail
          go_roundg (n - (i + 1))
          case measure => omega
          case rel => exact ⟨i + 1, hin, rfl, by go_num, HN8.out⟩
        · go_simp
          refine hK.out _ _ (HSY.out _ (ch Hb3.out (below_alloc _ _))) (fun hS => ?_)
          clear hK K
          try simp only [Act.put, List.setIfInBounds_toArray, List.set_cons_zero, List.set_cons_succ]
          refine wpAnyH_ready (rs := [1]) (by kernel_rfl) (by simp) ?_
          refine AllReadyH.cons (by simp only [List.getElem?_toArray, List.getElem?_cons_zero, List.getElem?_cons_succ]; rfl) (fun K hK => ?_) AllReadyH.nil
          obtain ⟨-, -, cq, -⟩ := (HQ.out (w3.alloc (.cells #[.bool x.l, .slice e1 m1 d1, .slice e2 m2 d2] 25)) (ch Hb3.out (below_alloc _ _))).cells
          go_simp
          refine hK.out _ _ (HSY.out _ (ch Hb3.out (below_alloc _ _))) (fun hS => ?_)
          clear hK K cq
          try simp only [Act.put, List.setIfInBounds_toArray, List.set_cons_zero, List.set_cons_succ]
          refine wpAnyH_ready (rs := [5]) (by kernel_rfl) (by simp) ?_
          refine AllReadyH.cons (by simp only [List.getElem?_toArray, List.getElem?_cons_zero, List.getElem?_cons_succ]; rfl) (fun K hK => ?_) AllReadyH.nil
          have own4 := HOW.out _ (ch Hb3.out (below_alloc w3 (.cells #[.bool x.l, .slice e1 m1 d1, .slice e2 m2 d2] 25)))
          have nw := World.news_of_block (w := w3.alloc (.cells #[.bool x.l, .slice e1 m1 d1, .slice e2 m2 d2] 25)) (B := w3.heap.size) (cs := #[.bool x.l, .slice e1 m1 d1, .slice e2 m2 d2]) (t := 25) (fr := (0, 0)) (heap_alloc_new _ _)
          refine step_append_lies _ (by rfl) (.tmp 29) (.tmp 32) 23 (by rfl) L 25 i25 _ 3 56 Try.underlying23 HI0.out.1 HI0.out.2.1 HI0.out.2.2.1 HI0.out.2.2.2 (by rfl) (by decide) v2 i (fl ys) (by rfl) own4 ⟨w3.heap.size, 0, none⟩ 1 1 [.bool x.l, .slice e1 m1 d1, .slice e2 m2 d2] (by rfl) (by rfl) nw (by simp [Value.oneCell']) (by decide) (by unfold maxLen; omega) (by omega) (by have := HLS.out; have := Hb3.out.size; simp; omega) _ (by rfl) ?_
          intro g9 cap9 w9 own9 gr9 at9 lt9
          have Hg9 : Hid (w9.ownsRow L 25 3 (.slice (some ⟨g9, 0, none⟩) (i + 1) cap9) (i + 1) (fl ys ++ [.bool x.l, .slice e1 m1 d1, .slice e2 m2 d2]) ∧ (w3.alloc (.cells #[.bool x.l, .slice e1 m1 d1, .slice e2 m2 d2] 25)).grownBy w9 v2.ownBlock ∧ (v2.ownBlock = some g9 ∨ w3.heap.size ≤ g9)) := ⟨own9, gr9, by rcases at9 with z | z; exact Or.inl z; right; rw [z]; simp⟩
          have hq9 := HQ9.out w3 Hb3.out _ w9 gr9
          obtain ⟨p0, p1, p2, pf⟩ := hq9.2.cells
          have pf2 := pf 2
          refine hK.out _ _ hq9.1 (fun hS => ?_)
          clear hK K own9 gr9 at9 lt9 own4 nw pf
          try simp only [Act.put, List.setIfInBounds_toArray, List.set_cons_zero, List.set_cons_succ]
          refine wpAnyH_take (i := 6) (v := ?_) (by simp only [List.getElem?_toArray, List.getElem?_cons_zero, List.getElem?_cons_succ]; rfl) (by kernel_rfl) (by kernel_rfl) (by kernel_rfl) (by exact fun _ _ _ h => h) (Or.inl ⟨by rfl, ?_⟩) hS ?_
          rotate_left
          · intro w' hS'
            go_simp
            try with_reducible rfl
          try simp only [Act.put, List.setIfInBounds_toArray, List.set_cons_zero, List.set_cons_succ]
          refine wpAnyH_ready (rs := [7]) (by kernel_rfl) (by simp) ?_
          refine AllReadyH.cons (by simp only [List.getElem?_toArray, List.getElem?_cons_zero, List.getElem?_cons_succ]; rfl) (fun K hK => ?_) AllReadyH.nil
          go_simp
          refine hK.out _ _ (HSZ.out _ _ hq9.1) (fun hS => ?_)
          clear hK K
          refine wpAnyH_done (by kernel_rfl) ?_ _
          try simp only [Act.put, List.setIfInBounds_toArray, List.set_cons_zero, List.set_cons_succ]
          have HN9 := HREL.out _ _ _ _ _ _ _ _ _ _ ⟨Hb3.out, Ho3.out, Hg9.out.1, Hg9.out.2.1, Hg9.out.2.2⟩
          have HN8 : Hid (BkR 25 [90] L q W' l (.slice av nb cv) xs (i + 1) (w9.setCell ⟨q, 2, none⟩ (.slice (some ⟨g9, 0, none⟩) (i + 1) cap9))) := HN9
          clear HN9 Hg9 hq9 p0 p1 p2 pf2 hS
          go_wp2_with fail
          go_roundg (n - (i + 1))
          case measure => omega
          case rel => exact ⟨i + 1, hin, rfl, by go_num, HN8.out⟩
    · have i1 : ¬ (i : Int) < (n : Int) := by omega
      have ei : i = n := by omega
      subst ei
      have et : xs.take i = xs := List.take_of_length_le (by have := HN.out.1; omega)
      obtain ⟨g0, g1, g2, -⟩ := hG.box.cells
      have rr : Bx wr (w.heap.size + 1) 25 (.bool false) (.slice none 0 0) (.slice none 0 0) := HH.out.res.keep (hT.block _ HH.out.res.lt (by have := HH.out.lo; omega))
      obtain ⟨r0, r1, r2, rf⟩ := rr.cells
      have rf0 := rf 0
      have rf1 := rf 1
      have rf2 := rf 2
      obtain ⟨avv, cvv, evv⟩ := own_slice hG.own
      subst evv
      rw [hlen] at g2
      have HBW : Hid (Below w.heap.size w wr) := hbw
      clear hG hT rr rf ih hbw
      go_wp2_with fail
      have t3 := set3_turn wr (w.heap.size + 1) (.bool l) (.slice av nb cv) (.slice avv i cvv)
      have hG := HGG.out.1
      have hlo := HH.out.lo
      refine bodyPost_ret (res1 rfl _ _ (w.heap.size + 1) _ rfl (loadVar25 (set3_cells r0 r1 r2).1 (set3_cells r0 r1 r2).2.1 (set3_cells r0 r1 r2).2.2)) rfl ?_
      refine ⟨_, _, rfl, ?_, HBW.out.trans (t3.below (fun k e => by omega) HBW.out.size)⟩
      have hs : Sg [90] wr (w.heap.size + 2) (.slice av nb cv) b := HSG.out.same (fun k hk => by
        have hb := HSG.out.block hk
        refine HGG.out.2.1.block k hb.2.1 (fun e => ?_)
        obtain ⟨cur, hc⟩ := hb.2.2
        have h2 := HH.out.item
        rw [← e] at h2
        have := hc.symm.trans h2
        injection this with this
        injection this with _ this
        exact absurd this (by decide))
      rw [et] at hG
      have hd := hG.done hs (by have := HEL.out; have := HH.out.item.lt; omega) (by have := HN.out.1; omega)
      rw [← HN.out.1] at hd
      exact (hd.same (fun k k1 k2 => t3.block k k2 (by omega))).wide (by omega) (by simp)
end Go.Proofs.Ytlpmcdnhnhgmpaa
