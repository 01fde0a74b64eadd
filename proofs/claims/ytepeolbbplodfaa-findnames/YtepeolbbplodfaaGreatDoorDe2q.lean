import Derived.Test.YtepeolbbplodfaaGreatDoorFpsq
import Derived.Shelf.Abstract
/-
  nodeOf.
-/
namespace Go.Proofs.YtepeolbbplodfaaGreatDoor
open Go.RowKit

theorem ePath : ∀ args w, (callFunc 135 args).run Tryz.prog w = .ok (.enter 135 args) w := enters_of Tryz.func135 (by rfl) (by rfl)
/-- what nodeOf answers -/
def NoPst (x : It) (blk off : Nat) (w : World) (e : Ending) (w' : World) : Prop :=
  ∃ n u, e = .returned (.tuple #[.agg (nc n u).toArray, .bool (itN x).isSome]) ∧ Below w.heap.size w w' ∧ n.W ∧ (nc n u).toArray.all (·.oneCell') = true ∧ ∀ m, itN x = some m → n = m ∧ Nmade w.heap.size w' n u ∧ ∃ i y vb, x.xs[i]? = some y ∧ w.cell? ⟨blk, off + i * 3 + 1, none⟩ = some vb ∧ Nval n u y vb
theorem Nmade.step {B B' : Nat} {w w' : World} {n : Nd} {u : Nv} (h : Nmade B w n u) (hB : B' ≤ B) (hs : ∀ g, B ≤ g → g < w.heap.size → w'.heap[g]? = w.heap[g]?) : Nmade B' w' n u :=
  ⟨own_rebase (own_same h.p (fun g hg => hs g (h.p.lt g hg).1 (h.p.lt g hg).2)) (fun g hg => by have := (h.p.lt g hg).1; omega), own_rebase (own_same h.x (fun g hg => hs g (h.x.lt g hg).1 (h.x.lt g hg).2)) (fun g hg => by have := (h.x.lt g hg).1; omega),
   fun hr => own_rebase (own_same (h.k hr) (fun g hg => hs g ((h.k hr).lt g hg).1 ((h.k hr).lt g hg).2)) (fun g hg => by have := ((h.k hr).lt g hg).1; omega), h.lp, h.lx, h.lk, h.apart⟩
set_option maxRecDepth 100000 in
set_option maxHeartbeats 3200000 in
theorem nodeOf_any {w : World} {x : It} {vb : Value} {a : Option Addr} {blk off c : Nat} (hvb : ∃ a n c, vb = .slice a n c) (h : Its Vb w x.xs a blk off) : Calls Tryz.prog 126 #[iv x.l vb (.slice a x.xs.length c)] w (NoPst x blk off w) := by
  have hz := zv29
  obtain ⟨a1, n1, k1, rfl⟩ := hvb
  obtain ⟨xl, exl⟩ : ∃ l, l = x.l := ⟨_, rfl⟩
  rw [← exl]
  obtain ⟨xs, exs⟩ : ∃ xs, xs = x.xs := ⟨_, rfl⟩
  rw [← exs] at h ⊢
  have HXS : Hid (xs = x.xs) := exs
  clear exl exs
  have HI : Hid (itN x = if xs.length = 2 then itP (xs.getD 0 itE) (xs.getD 1 itE) else if xs.length = 17 then itB (xs.take 16) (xs.getD 16 itE) else none) := by
    show itN x = _
    unfold itN
    rw [HXS.out]
  obtain ⟨n2, en2⟩ : ∃ n, n = xs.length := ⟨_, rfl⟩
  have hn := h.hn
  rw [← en2] at hn ⊢
  have HN : Hid (n2 = xs.length) := en2
  obtain ⟨a2, ea2⟩ : ∃ a2, a2 = a := ⟨_, rfl⟩
  obtain ⟨k2, ek2⟩ : ∃ k2, k2 = c := ⟨_, rfl⟩
  subst ea2 ek2
  clear en2
  have B0 : Below w.heap.size w ((w.alloc (.cells #[.bool xl, .slice a1 n1 k1, .slice a2 n2 k2] 191)).alloc (.cells (nc nz uz).toArray 110)) := (below_alloc _ _).alloc (by simp) _
  have HB : Hid (Below w.heap.size w ((w.alloc (.cells #[.bool xl, .slice a1 n1 k1, .slice a2 n2 k2] 191)).alloc (.cells (nc nz uz).toArray 110)) ∧ ((w.alloc (.cells #[.bool xl, .slice a1 n1 k1, .slice a2 n2 k2] 191)).alloc (.cells (nc nz uz).toArray 110)).heap.size = w.heap.size + 2) := ⟨B0, by simp⟩
  have g0 : ((w.alloc (.cells #[.bool xl, .slice a1 n1 k1, .slice a2 n2 k2] 191)).alloc (.cells (nc nz uz).toArray 110)).heap[w.heap.size + 1]? = some (.cells (nc nz uz).toArray 110 (0, 0)) := by
    have := heap_alloc_new (w.alloc (.cells #[.bool xl, .slice a1 n1 k1, .slice a2 n2 k2] 191)) (.cells (nc nz uz).toArray 110)
    rw [show (w.alloc (.cells #[.bool xl, .slice a1 n1 k1, .slice a2 n2 k2] 191)).heap.size = w.heap.size + 1 by simp] at this
    exact this
  have HG : Hid (((w.alloc (.cells #[.bool xl, .slice a1 n1 k1, .slice a2 n2 k2] 191)).alloc (.cells (nc nz uz).toArray 110)).heap[w.heap.size + 1]? = some (.cells (nc nz uz).toArray 110 (0, 0))) := g0
  have HX : Hid (Its Vb w xs a2 blk off) := h
  by_cases h2 : n2 = 2
  · subst h2
    obtain ⟨rfl, x0, b1, m1, l1, b2, m2, l2, hx0, -, d0, d1, d2, hL0⟩ := h.nth B0 (i := 0) (by have := HN.out; omega)
    obtain ⟨-, x1, c1, p1, q1, c2, p2, q2, hx1, -, e0, e1, e2, hL1⟩ := h.nth B0 (i := 1) (by have := HN.out; omega)
    have bx := (box_keep (below_alloc (w.alloc (.cells #[.bool xl, .slice a1 n1 k1, .slice (some ⟨blk, off, none⟩) 2 k2] 191)) (.cells (nc nz uz).toArray 110))).2.2
    have eI : itN x = itP x0 x1 := by
      rw [HI.out, if_pos HN.out.symm, List.getD_eq_getElem?_getD, List.getD_eq_getElem?_getD, hx0, hx1]
      rfl
    obtain ⟨x0l, ex0⟩ : ∃ l, l = x0.l := ⟨_, rfl⟩
    obtain ⟨x1l, ex1⟩ : ∃ l, l = x1.l := ⟨_, rfl⟩
    rw [← ex0] at d0
    rw [← ex1] at e0
    have HH : Hid (itN x = itP x0 x1 ∧ xs[1]? = some x1 ∧ Lies Vb ((w.alloc (.cells #[.bool xl, .slice a1 n1 k1, .slice (some ⟨blk, off, none⟩) 2 k2] 191)).alloc (.cells (nc nz uz).toArray 110)) x0 (.slice b1 m1 l1) (.slice b2 m2 l2) ∧ Lies Vb ((w.alloc (.cells #[.bool xl, .slice a1 n1 k1, .slice (some ⟨blk, off, none⟩) 2 k2] 191)).alloc (.cells (nc nz uz).toArray 110)) x1 (.slice c1 p1 q1) (.slice c2 p2 q2) ∧ x0l = x0.l ∧ x1l = x1.l) := ⟨eI, hx1, hL0, hL1, ex0, ex1⟩
    have HC : Hid (∀ w', Turn (fun q => q = w.heap.size + 1) ((w.alloc (.cells #[.bool xl, .slice a1 n1 k1, .slice (some ⟨blk, off, none⟩) 2 k2] 191)).alloc (.cells (nc nz uz).toArray 110)) w' → w'.cell? ⟨w.heap.size, 2, none⟩ = some (.slice (some ⟨blk, off, none⟩) 2 k2) ∧ (w'.cell? ⟨blk, off + 0 * 3, none⟩ = some (.bool x0l) ∧ w'.cell? ⟨blk, off + 0 * 3 + 1, none⟩ = some (.slice b1 m1 l1) ∧ w'.cell? ⟨blk, off + 0 * 3 + 2, none⟩ = some (.slice b2 m2 l2)) ∧ (w'.cell? ⟨blk, off + 1 * 3, none⟩ = some (.bool x1l) ∧ w'.cell? ⟨blk, off + 1 * 3 + 1, none⟩ = some (.slice c1 p1 q1) ∧ w'.cell? ⟨blk, off + 1 * 3 + 2, none⟩ = some (.slice c2 p2 q2))) := fun w' k => by
      have hb : blk < w.heap.size := by
        obtain ⟨_, _, _, _, _, _, f0, _⟩ := HX.out.get 1 x1 hx1
        exact World.block_lt_of_cell? _ _ f0
      have cc : ∀ (o : Nat), w'.cell? ⟨blk, o, none⟩ = ((w.alloc (.cells #[.bool xl, .slice a1 n1 k1, .slice (some ⟨blk, off, none⟩) 2 k2] 191)).alloc (.cells (nc nz uz).toArray 110)).cell? ⟨blk, o, none⟩ := fun o => k.cell (q := ⟨blk, o, none⟩) (by rw [HB.out.2]; show blk < _; omega) (by show ¬ blk = w.heap.size + 1; omega)
      refine ⟨(k.cell (q := ⟨w.heap.size, 2, none⟩) (World.block_lt_of_cell? _ _ bx) (by show ¬ w.heap.size = w.heap.size + 1; omega)).trans bx, ⟨(cc _).trans d0, (cc _).trans d1, (cc _).trans d2⟩, ⟨(cc _).trans e0, (cc _).trans e1, (cc _).trans e2⟩⟩
    have HD : Hid (w.cell? ⟨blk, off + 1 * 3 + 1, none⟩ = some (.slice c1 p1 q1)) := by
      obtain ⟨_, _, _, _, _, _, _, f1, _⟩ := HX.out.get 1 x1 hx1
      have q := (B0.cell (p := ⟨blk, off + 1 * 3 + 1, none⟩) (World.block_lt_of_cell? _ _ f1))
      rw [e1] at q
      exact q.symm
    clear hx0 hx1 hL0 hL1 ex0 ex1 d0 d1 d2 e0 e1 e2 bx eI h g0
    go_enter Tryz.func126, Tryz.ntmps126
    go_upto_region 3 with (fail)
    refine wp_region_held_drew (S := fun w' => Turn (fun q => q = w.heap.size + 1) ((w.alloc (.cells #[.bool xl, .slice a1 n1 k1, .slice (some ⟨blk, off, none⟩) 2 k2] 191)).alloc (.cells (nc nz uz).toArray 110)) w') (by kernel_rfl) (Turn.drew _) ?_
    intro hS
    change wpAnyH _ _ _ _ _ 13 _ _ _
    generalize hwd : ((w.alloc (.cells #[.bool xl, .slice a1 n1 k1, .slice (some ⟨blk, off, none⟩) 2 k2] 191)).alloc (.cells (nc nz uz).toArray 110)).drew = wd at hS ⊢
    have HWD : Hid (Below ((w.alloc (.cells #[.bool xl, .slice a1 n1 k1, .slice (some ⟨blk, off, none⟩) 2 k2] 191)).alloc (.cells (nc nz uz).toArray 110)).heap.size ((w.alloc (.cells #[.bool xl, .slice a1 n1 k1, .slice (some ⟨blk, off, none⟩) 2 k2] 191)).alloc (.cells (nc nz uz).toArray 110)) wd ∧ wd.heap[w.heap.size + 1]? = some (.cells (nc nz uz).toArray 110 (0, 0))) := by subst hwd; exact ⟨(Below.refl _ _).drew, HG.out⟩
    clear hwd
    refine wpAnyH_take (i := 0) (v := (.pointer (some ⟨w.heap.size, 2, none⟩))) (by simp only [List.getElem?_toArray, List.getElem?_cons_zero]; rfl) (by kernel_rfl) (by kernel_rfl) (by kernel_rfl) (by exact fun _ _ _ h => h) (y_f62 (by kernel_rfl) _ 2 rfl _ 0 rfl (by omega)) hS ?_
    try simp only [Act.put, List.setIfInBounds_toArray, List.set_cons_zero, List.set_cons_succ]
    refine wpAnyH_take (i := 1) (v := (.slice (some ⟨blk, off, none⟩) 2 k2)) (by simp only [List.getElem?_toArray, List.getElem?_cons_zero, List.getElem?_cons_succ]; rfl) (by kernel_rfl) (by kernel_rfl) (by kernel_rfl) (by exact fun _ _ _ h => h) (y_load60 (by kernel_rfl) _ rfl _ _ rfl _ (fun w' hs => (HC.out w' hs).1)) hS ?_
    try simp only [Act.put, List.setIfInBounds_toArray, List.set_cons_zero, List.set_cons_succ]
    refine wpAnyH_take (i := 2) (v := (.pointer (some ⟨blk, off + 0 * 3, none⟩))) (by simp only [List.getElem?_toArray, List.getElem?_cons_zero, List.getElem?_cons_succ]; rfl) (by kernel_rfl) (by kernel_rfl) (by kernel_rfl) (by exact fun _ _ _ h => h) (y_i60 (by kernel_rfl) _ _ rfl _ _ 2 k2 0 rfl rfl (by omega)) hS ?_
    try simp only [Act.put, List.setIfInBounds_toArray, List.set_cons_zero, List.set_cons_succ]
    refine wpAnyH_take (i := 3) (v := (.agg #[.bool x0l, .slice b1 m1 l1, .slice b2 m2 l2])) (by simp only [List.getElem?_toArray, List.getElem?_cons_zero, List.getElem?_cons_succ]; rfl) (by kernel_rfl) (by kernel_rfl) (by kernel_rfl) (by exact fun _ _ _ h => h) (y_ld62 (by kernel_rfl) _ rfl _ _ rfl _ _ _ (fun w' hs => (HC.out w' hs).2.1)) hS ?_
    try simp only [Act.put, List.setIfInBounds_toArray, List.set_cons_zero, List.set_cons_succ]
    refine wpAnyH_take (i := 4) (v := (.pointer (some ⟨w.heap.size, 2, none⟩))) (by simp only [List.getElem?_toArray, List.getElem?_cons_zero, List.getElem?_cons_succ]; rfl) (by kernel_rfl) (by kernel_rfl) (by kernel_rfl) (by exact fun _ _ _ h => h) (y_f62 (by kernel_rfl) _ 2 rfl _ 0 rfl (by omega)) hS ?_
    try simp only [Act.put, List.setIfInBounds_toArray, List.set_cons_zero, List.set_cons_succ]
    refine wpAnyH_take (i := 5) (v := (.slice (some ⟨blk, off, none⟩) 2 k2)) (by simp only [List.getElem?_toArray, List.getElem?_cons_zero, List.getElem?_cons_succ]; rfl) (by kernel_rfl) (by kernel_rfl) (by kernel_rfl) (by exact fun _ _ _ h => h) (y_load60 (by kernel_rfl) _ rfl _ _ rfl _ (fun w' hs => (HC.out w' hs).1)) hS ?_
    try simp only [Act.put, List.setIfInBounds_toArray, List.set_cons_zero, List.set_cons_succ]
    refine wpAnyH_take (i := 6) (v := (.pointer (some ⟨blk, off + 1 * 3, none⟩))) (by simp only [List.getElem?_toArray, List.getElem?_cons_zero, List.getElem?_cons_succ]; rfl) (by kernel_rfl) (by kernel_rfl) (by kernel_rfl) (by exact fun _ _ _ h => h) (y_i60 (by kernel_rfl) _ _ rfl _ _ 2 k2 1 rfl rfl (by omega)) hS ?_
    try simp only [Act.put, List.setIfInBounds_toArray, List.set_cons_zero, List.set_cons_succ]
    refine wpAnyH_take (i := 7) (v := (.agg #[.bool x1l, .slice c1 p1 q1, .slice c2 p2 q2])) (by simp only [List.getElem?_toArray, List.getElem?_cons_zero, List.getElem?_cons_succ]; rfl) (by kernel_rfl) (by kernel_rfl) (by kernel_rfl) (by exact fun _ _ _ h => h) (y_ld62 (by kernel_rfl) _ rfl _ _ rfl _ _ _ (fun w' hs => (HC.out w' hs).2.2)) hS ?_
    try simp only [Act.put, List.setIfInBounds_toArray, List.set_cons_zero, List.set_cons_succ]
    refine wpAnyH_ready (rs := [8]) (by kernel_rfl) (by simp) ?_
    refine AllReadyH.cons (by simp only [List.getElem?_toArray, List.getElem?_cons_zero, List.getElem?_cons_succ]; rfl) (fun K hK => ?_) AllReadyH.nil
    have KP := pathNode_any (HH.out.2.2.1.keep HWD.out.1) (HH.out.2.2.2.1.keep HWD.out.1)
    rw [← HH.out.2.2.2.2.1, ← HH.out.2.2.2.2.2] at KP
    refine r_call2 135 _ _ _ rfl (by kernel_rfl) _ _ rfl rfl ePath ?_
    refine KP.mono ?_
    rintro e w3 ⟨n, u, rfl, b3, nW, one, hm⟩
    refine ⟨_, rfl, ?_⟩
    have HZ : Hid (Below ((w.alloc (.cells #[.bool xl, .slice a1 n1 k1, .slice (some ⟨blk, off, none⟩) 2 k2] 191)).alloc (.cells (nc nz uz).toArray 110)).heap.size ((w.alloc (.cells #[.bool xl, .slice a1 n1 k1, .slice (some ⟨blk, off, none⟩) 2 k2] 191)).alloc (.cells (nc nz uz).toArray 110)) w3 ∧ ∀ m, itP x0 x1 = some m → n = m ∧ Nmade wd.heap.size w3 n u ∧ Nval n u x1 (.slice c1 p1 q1)) := ⟨ch HWD.out.1 b3, hm⟩
    have g3 := (b3.block (w.heap.size + 1) (by have := HWD.out.1.size; have := HB.out.2; omega)).trans HWD.out.2
    refine hK.out _ _ (hS.trans (Turn.of_below (F := fun q => q = w.heap.size + 1) b3) (fun _ q => Or.inl q)) (fun hS => ?_)
    clear b3 hm KP
    clear hK K
    try simp only [Act.put, List.setIfInBounds_toArray, List.set_cons_zero, List.set_cons_succ]
    refine wpAnyH_take (i := 9) (v := (.agg (nc n u).toArray)) (by simp only [List.getElem?_toArray, List.getElem?_cons_zero, List.getElem?_cons_succ]; rfl) (by kernel_rfl) (by kernel_rfl) (by kernel_rfl) (by exact fun _ _ _ h => h) (y_ext (by kernel_rfl) _ 0 rfl _ _ rfl rfl) hS ?_
    try simp only [Act.put, List.setIfInBounds_toArray, List.set_cons_zero, List.set_cons_succ]
    refine wpAnyH_take (i := 10) (v := (.bool (itP x0 x1).isSome)) (by simp only [List.getElem?_toArray, List.getElem?_cons_zero, List.getElem?_cons_succ]; rfl) (by kernel_rfl) (by kernel_rfl) (by kernel_rfl) (by exact fun _ _ _ h => h) (y_ext (by kernel_rfl) _ 1 rfl _ _ rfl rfl) hS ?_
    try simp only [Act.put, List.setIfInBounds_toArray, List.set_cons_zero, List.set_cons_succ]
    refine wpAnyH_ready (rs := [11]) (by kernel_rfl) (by simp) ?_
    refine AllReadyH.cons (by simp only [List.getElem?_toArray, List.getElem?_cons_zero, List.getElem?_cons_succ]; rfl) (fun K hK => ?_) AllReadyH.nil
    refine r_st29b (by kernel_rfl) _ _ rfl (w.heap.size + 1) n nz u uz nW nz_w one g3 rfl rfl ?_
    refine hK.out _ _ (hS.trans (Turn.setRow (F := fun q => q = w.heap.size + 1) _ _ _ rfl) (fun _ q => Or.inl q)) (fun hS => ?_)
    clear hK K
    try simp only [Act.put]
    refine wpAnyH_take (i := 12) (v := (.bool (itP x0 x1).isSome)) (by simp only [List.getElem?_toArray, List.getElem?_cons_zero, List.getElem?_cons_succ]; rfl) (by kernel_rfl) (by kernel_rfl) (by kernel_rfl) (by exact fun _ _ _ h => h) (y_assign (by kernel_rfl) _ rfl _ rfl) hS ?_
    try simp only [Act.put, List.setIfInBounds_toArray, List.set_cons_zero, List.set_cons_succ]
    refine wpAnyH_done (by kernel_rfl) ?_ _
    clear hS
    go_wp2_with fail
    have hr3 := setRow_heap w3 (w.heap.size + 1) _ (nc n u).toArray _ _ g3
    refine bodyPost_ret (res2n rfl _ _ (w.heap.size + 1) _ _ _ nW (rng_row hr3) rfl rfl) rfl ?_
    refine ⟨n, u, by rw [HH.out.1]; rfl, below_setRow (ch HB.out.1 HZ.out.1) (by omega) _, nW, one, fun m hm => ?_⟩
    rw [HH.out.1] at hm
    obtain ⟨r1, r2, r3⟩ := HZ.out.2 m hm
    have s0 := HB.out.2
    have s1 := HWD.out.1.size
    exact ⟨r1, r2.step (by omega) (fun g g1 g2 => setRow_other _ _ _ _ (by omega)), 1, x1, _, by rw [← HXS.out]; exact HH.out.2.1, HD.out, r3⟩
  · have j2 : ((n2 : Int) == 2) = false := by simp; omega
    have j2b : ¬ (n2 : Int) = 2 := by omega
    by_cases h17 : n2 = 17
    · subst h17
      obtain ⟨y, hy⟩ : ∃ y, xs[16]? = some y := ⟨_, List.getElem?_eq_getElem (by have := HN.out; omega)⟩
      obtain ⟨b1, m1, l1, b2, m2, l2, -, d1, -, -⟩ := HX.out.get 16 y hy
      have eI : itN x = itB (xs.take 16) y := by
        rw [HI.out, if_neg (by rw [← HN.out]; omega), if_pos HN.out.symm, List.getD_eq_getElem?_getD, hy]
        rfl
      have K := branchNode_any (c := k2) (h.keep B0) HN.out.symm hy ((B0.cell (p := ⟨blk, off + 16 * 3 + 1, none⟩) (World.block_lt_of_cell? _ _ d1)).trans d1)
      have HH : Hid (itN x = itB (xs.take 16) y ∧ xs[16]? = some y ∧ w.cell? ⟨blk, off + 16 * 3 + 1, none⟩ = some (.slice b1 m1 l1)) := ⟨eI, hy, d1⟩
      clear hy d1 eI h g0 B0
      go_enter Tryz.func126, Tryz.ntmps126
      go_wp2_with (first
        | (go_at_call 136; refine K.mono ?_; rintro e w3 ⟨n, u, rfl, b3, nW, one, hm⟩; have HZ : Hid (Below ((w.alloc (.cells #[.bool xl, .slice a1 n1 k1, .slice a2 17 k2] 191)).alloc (.cells (nc nz uz).toArray 110)).heap.size ((w.alloc (.cells #[.bool xl, .slice a1 n1 k1, .slice a2 17 k2] 191)).alloc (.cells (nc nz uz).toArray 110)) w3 ∧ ∀ m, itB (xs.take 16) y = some m → n = m ∧ Nmade ((w.alloc (.cells #[.bool xl, .slice a1 n1 k1, .slice a2 17 k2] 191)).alloc (.cells (nc nz uz).toArray 110)).heap.size w3 n u ∧ Nval n u y (.slice b1 m1 l1)) := ⟨b3, hm⟩; have g3 := (b3.block (w.heap.size + 1) (by rw [HB.out.2]; omega)).trans HG.out; clear b3 hm K)
        | refine wpList_st29b (by kernel_rfl) _ _ (by rfl) (w.heap.size + 1) n nz u uz nW nz_w one g3 (by rfl) (by rfl) ?_)
      have hr3 := setRow_heap w3 (w.heap.size + 1) _ (nc n u).toArray _ _ g3
      refine bodyPost_ret (res2n rfl _ _ (w.heap.size + 1) _ _ _ nW (rng_row hr3) rfl rfl) rfl ?_
      refine ⟨n, u, by rw [HH.out.1]; rfl, below_setRow (ch HB.out.1 HZ.out.1) (by omega) _, nW, one, fun m hm => ?_⟩
      rw [HH.out.1] at hm
      obtain ⟨r1, r2, r3⟩ := HZ.out.2 m hm
      have s0 := HB.out.2
      exact ⟨r1, r2.step (by omega) (fun g g1 g2 => setRow_other _ _ _ _ (by omega)), 16, y, _, by rw [← HXS.out]; exact HH.out.2.1, HH.out.2.2, r3⟩
    · have j17 : ((n2 : Int) == 17) = false := by simp; omega
      have j17b : ¬ (n2 : Int) = 17 := by omega
      have eI : Hid (itN x = none) := by show itN x = none; rw [HI.out, if_neg (by rw [← HN.out]; exact h2), if_neg (by rw [← HN.out]; exact h17)]
      clear h
      go_enter Tryz.func126, Tryz.ntmps126
      go_wp2_with (first
        | refine wpList_bd29 (by kernel_rfl) (by rfl) ?_
        | refine wpList_st29b (by kernel_rfl) _ _ (by rfl) (w.heap.size + 1) nz nz uz uz nz_w nz_w (nin_zero w).one g0 (by rfl) (by rfl) ?_)
      have hr3 := setRow_heap ((w.alloc (.cells #[.bool xl, .slice a1 n1 k1, .slice a2 n2 k2] 191)).alloc (.cells (nc nz uz).toArray 110)) (w.heap.size + 1) _ (nc nz uz).toArray _ _ g0
      refine bodyPost_ret (res2n rfl _ _ (w.heap.size + 1) _ _ _ nz_w (rng_row hr3) rfl rfl) rfl ?_
      refine ⟨nz, uz, by rw [eI.out]; rfl, below_setRow HB.out.1 (by omega) _, nz_w, (nin_zero w).one, fun m hm => ?_⟩
      rw [eI.out] at hm
      cases hm
end Go.Proofs.YtepeolbbplodfaaGreatDoor

/-
  Decode.
-/
namespace Go.Proofs.YtepeolbbplodfaaGreatDoor
open Go.RowKit

/-- an item that was read: its items, the strings among them -/
theorem Own.its {w : World} {lo hi : Nat} {x : It} {vb vi : Value} (h : Own w lo hi x vb vi) : ∃ a blk off c, (∃ a n c, vb = .slice a n c) ∧ vi = .slice a x.xs.length c ∧ Its Vb w x.xs a blk off ∧
    ∀ (i : Nat) (y : It) (v : Value), x.xs[i]? = some y → w.cell? ⟨blk, off + i * 3 + 1, none⟩ = some v → y.l = false → w.ownsRow lo 5 1 v y.b.length (bv y.b) ∧ (∀ q, v.ownBlock = some q → q < hi) ∧ y.b.length ≤ 1048576 := by
  have hL := h.lies
  cases h with
  | str hb hlt ok hl =>
    obtain ⟨a', c', a, c, blk, off, e1, e2, hR, hI⟩ := hL.opened
    exact ⟨a, blk, off, c, ⟨_, _, _, e1⟩, e2, hI, fun i y v hy => by simp [It.xs] at hy⟩
  | @lst lo hi xs vi ys s t row hlt hl hn h1 h2 h3 h4 hb hr =>
    obtain ⟨a', c', a, c, blk, off, e1, e2, hR, hI⟩ := hL.opened
    refine ⟨a, blk, off, c, ⟨_, _, _, e1⟩, e2, hI, fun i y v hy hv hyl => ?_⟩
    have hy' : xs[i]? = some y := hy
    have hi' := (List.getElem?_eq_some_iff.1 hy').1
    have ha := hI.ha (by omega)
    rcases row.2 with ⟨e, h0⟩ | ⟨g, cap, cur, e, _⟩
    · rw [e] at e2
      injection e2 with e3
      rw [← e3] at ha
      cases ha
    · rw [e] at e2
      injection e2 with e3
      rw [← e3] at ha
      injection ha with ha
      injection ha with ga gb gc
      obtain ⟨⟨zl, zb, zi⟩, hz⟩ : ∃ z, ys[i]? = some z := ⟨_, List.getElem?_eq_getElem (by omega)⟩
      obtain ⟨-, k2, -⟩ := fl_at hz
      have c2 := row.cells (g := g) (by rw [e]; rfl) _ _ k2
      rw [add_flat] at c2
      rw [← ga, ← gb, Nat.zero_add, c2] at hv
      obtain rfl : zb = v := Option.some.inj hv
      have ho := hr i y _ hy' hz
      dsimp only at ho
      have a1 := h1 i hi'
      have a3 := h3 i hi'
      cases ho with
      | str hb' hlt' ok' hl' => exact ⟨own_rebase hb' (fun q hq => by have := (hb'.lt q hq).1; omega), fun q hq => by have := hlt' q hq; omega, hl'⟩
      | lst => simp [It.l] at hyl
theorem decX_eq (s : List Nat) : (∃ p e, dec s = .bad p e ∧ decE s = e ∧ decX s = .mk false [] []) ∨ ∃ x, dec s = .ok x ∧ decX s = x ∧ decE s = 0 := by
  unfold decE decX
  cases h : dec s with
  | bad p e => exact Or.inl ⟨p, e, rfl, rfl, rfl⟩
  | ok x => exact Or.inr ⟨x, rfl, rfl, rfl⟩
theorem rdHead_bad {s : List Nat} {p e m c : Nat} (h : rdHead s p e m = .bad c) : c ≠ 0 := by
  unfold rdHead at h
  split at h
  · split at h
    · cases h; decide
    · cases h
  · split at h
    · cases h; decide
    · split at h
      · cases h; decide
      · split at h
        · cases h; decide
        · split at h
          · cases h; decide
          · split at h
            · cases h; decide
            · cases h
theorem rdL_bad {f : Nat → Nat → Rd} (hf : ∀ a e p c, f a e = .bad p c → c ≠ 0) : ∀ n a e acc p c, rdL f n a e acc = .bad p c → c ≠ 0
  | 0, a, e, acc, p, c, h => by rw [rdL] at h; cases h
  | n + 1, a, e, acc, p, c, h => by
    rw [rdL] at h
    split at h
    · split at h
      · rename_i q d hq
        cases h
        exact hf _ _ _ _ hq
      · exact rdL_bad hf n _ _ _ p c h
    · cases h
theorem rd_bad (s : List Nat) : ∀ (d p e q c : Nat), rd s d p e = .bad q c → c ≠ 0 := by
  intro d
  induction d with
  | zero =>
    intro p e q c h
    rw [rd_eq] at h
    split at h
    · cases h; decide
    · split at h
      · cases h
      · split at h
        · split at h
          · rename_i hq
            cases h
            exact rdHead_bad hq
          · split at h
            · cases h; decide
            · cases h
        · split at h
          · cases h; decide
          · omega
  | succ d ih =>
    intro p e q c h
    rw [rd_eq] at h
    split at h
    · cases h; decide
    · split at h
      · cases h
      · split at h
        · split at h
          · rename_i hq
            cases h
            exact rdHead_bad hq
          · split at h
            · cases h; decide
            · cases h
        · split at h
          · omega
          · split at h
            · rename_i hq
              cases h
              exact rdHead_bad hq
            · exact rdL_bad (fun a e p c h => ih a e p c h) _ _ _ _ _ _ h
theorem dec_bad {s : List Nat} {p e : Nat} (h : dec s = .bad p e) : e ≠ 0 := by
  unfold dec at h
  split at h
  · cases h; decide
  · split at h
    · rename_i hq
      cases h
      exact rd_bad _ _ _ _ _ _ hq
    · split at h
      · cases h; decide
      · cases h
/-- a node with its value -/
theorem Nout.of {B lo hi : Nat} {w : World} {n : Nd} {u : Nv} (hW : n.W) (hm : Nmade B w n u) (hv : w.ownsRow lo 5 1 u.v n.val.length (bv n.val)) (hl : n.val.length ≤ 1048576) (hlt : ∀ q, u.v.ownBlock = some q → q < hi) (hB : hi ≤ B) (hlo : lo ≤ B) : Nout lo w n u := by
  have rb : ∀ {v : Value} {m : Nat} {xs : List Value}, w.ownsRow B 5 1 v m xs → w.ownsRow lo 5 1 v m xs := fun ho => own_rebase ho (fun q hq => by have := (ho.lt q hq).1; omega)
  have low : ∀ j, j < 19 → j ≠ 1 → ∀ g, (u.at j).ownBlock = some g → B ≤ g := fun j hj j1 g hg => by
    match j with
    | 0 => exact (hm.p.lt g hg).1
    | 2 => exact (hm.x.lt g hg).1
    | j + 3 =>
      have hk : j < n.kids.length := by rw [hW.kids]; omega
      exact ((hm.k (List.getElem?_eq_getElem hk)).lt g hg).1
  refine ⟨hW, rb hm.p, hv, rb hm.x, fun hr => rb (hm.k hr), hm.lp, hl, hm.lx, hm.lk, fun i j hi' hj hij g hg => ?_⟩
  by_cases i1 : i = 1
  · subst i1
    intro h
    have := low j hj (by omega) g h
    have := hlt g hg
    omega
  · by_cases j1 : j = 1
    · subst j1
      intro h
      have := low i hi' i1 g hg
      have := hlt g h
      omega
    · exact hm.apart i j hi' hj hij i1 j1 g hg

theorem Nout.step {B B' : Nat} {w w' : World} {n : Nd} {u : Nv} (h : Nout B w n u) (hB : B' ≤ B) (hs : ∀ g, B ≤ g → g < w.heap.size → w'.heap[g]? = w.heap[g]?) : Nout B' w' n u :=
  have rb : ∀ {v : Value} {m : Nat} {xs : List Value}, w.ownsRow B 5 1 v m xs → w'.ownsRow B' 5 1 v m xs := fun ho => own_rebase (own_same ho (fun g hg => hs g (ho.lt g hg).1 (ho.lt g hg).2)) (fun q hq => by have := (ho.lt q hq).1; omega)
  ⟨h.W, rb h.p, rb h.v, rb h.x, fun hr => rb (h.k hr), h.lp, h.lv, h.lx, h.lk, h.apart⟩
theorem keep2 {w1 w3 : World} {g : Nat} {o o1 o2 : Obj} (h : w1.heap[g]? = some o) (b3 : Below (w1.alloc o1).heap.size (w1.alloc o1) w3) : (w3.alloc o2).heap[g]? = some o := by
  have q1 := (Array.getElem?_eq_some_iff.1 h).1
  have q2 := b3.size
  rw [World.size_alloc] at q2
  rw [heap_alloc_old _ _ (by omega), b3.block _ (by rw [World.size_alloc]; omega), heap_alloc_old _ _ q1]
  exact h
set_option maxRecDepth 100000 in
set_option maxHeartbeats 3200000 in
theorem dec_step (s : List Nat) (ih : ∀ t : List Nat, t.length < s.length → DecOK t) : DecOK s := by
  intro w v h
  have hz := zv29
  have hs : ∀ x ∈ s, x < 256 := by obtain ⟨_, _, _, _, _, hv, _⟩ := h; exact (vw_ok hv).2
  have B0 : Below w.heap.size w (w.alloc (.cells (nc nz uz).toArray 110)) := below_alloc _ _
  obtain ⟨a, b, off, c, rfl, hv, hc, -, hl⟩ := h
  have K := decode_any _ a b off c s (hv.below B0) hc (by omega)
  have g0 := heap_alloc_new w (.cells (nc nz uz).toArray 110)
  have HG : Hid ((w.alloc (.cells (nc nz uz).toArray 110)).heap[w.heap.size]? = some (.cells (nc nz uz).toArray 110 (0, 0)) ∧ Below w.heap.size w (w.alloc (.cells (nc nz uz).toArray 110)) ∧ (w.alloc (.cells (nc nz uz).toArray 110)).heap.size = w.heap.size + 1) := ⟨g0, B0, by simp⟩
  clear hv hc g0 B0
  rcases decX_eq s with ⟨p, e, hd, hE, hX⟩ | ⟨x, hd, hX, hE⟩
  · have HN : Hid (decN KD s = none) := by show _ = _; unfold decN; rw [hd]
    have he : decE s ≠ 0 := by rw [hE]; exact dec_bad hd
    obtain ⟨de, ede⟩ : ∃ d, d = decE s := ⟨_, rfl⟩
    obtain ⟨dp', edp⟩ : ∃ d, d = decP s := ⟨_, rfl⟩
    obtain ⟨xl, exl⟩ : ∃ d, d = (decX s).l := ⟨_, rfl⟩
    have j0 : ((de : Int) != 0) = true := by simp; omega
    have j0b : ¬ (de : Int) = 0 := by omega
    unfold DecPost at K
    rw [← ede, ← edp, ← exl] at K
    clear hd hE hX ede edp he exl
    go_enter Tryz.func107, Tryz.ntmps107
    go_wp2_with (first
      | (go_at_call 125; refine K.mono ?_; rintro e' w1 ⟨vb, vi, rfl, ho, b1⟩; obtain ⟨a1, n1, k1, a2, n2, k2, rfl, rfl⟩ := ho.lies.form; have HB : Hid (Below w.heap.size w w1) := ch HG.out.2.1 b1; have g1 := (b1.block w.heap.size (by rw [HG.out.2.2]; omega)).trans HG.out.1; have g2 := (heap_alloc_old w1 (.cells #[.bool xl, .slice a1 n1 k1, .slice a2 n2 k2] 191) (Array.getElem?_eq_some_iff.1 g1).1).trans g1; have B2 : Hid (Below w.heap.size w (w1.alloc (.cells #[.bool xl, .slice a1 n1 k1, .slice a2 n2 k2] 191))) := ch HB.out (below_alloc _ _); clear b1 ho g1 K)
      | refine wpList_bd29 (by kernel_rfl) (by rfl) ?_
      | refine wpList_st29b (by kernel_rfl) _ _ (by rfl) w.heap.size nz nz uz uz nz_w nz_w (nin_zero w).one g2 (by rfl) (by rfl) ?_)
    have hr3 := setRow_heap (w1.alloc (.cells #[.bool xl, .slice a1 n1 k1, .slice a2 n2 k2] 191)) w.heap.size _ (nc nz uz).toArray _ _ g2
    refine bodyPost_ret (res2n rfl _ _ w.heap.size _ _ _ nz_w (rng_row hr3) rfl rfl) rfl ?_
    have e1 : dN s = nz := by unfold dN; rw [HN.out]; rfl
    have e2 : dE s = 70 := by unfold dE; rw [HN.out]; rfl
    exact ⟨uz, by rw [e1, e2]; rfl, by rw [e1]; exact nout_zero _ _, below_setRow B2.out (by omega) _⟩
  · have HD : Hid (dec s = .ok x) := hd
    have HX : Hid (decX s = x) := hX
    have HN0 : Hid (decN KD s = match itN x with | none => none | some n => if mayN KD n then some n else none) := by show _ = _; unfold decN; rw [hd]; rfl
    obtain ⟨d1, d2, d3, d4⟩ := dec_ok hs hd
    have HD2 : Hid (may x = true ∧ dp x ≤ 80 ∧ form x = s ∧ s.length ≤ 1048576) := ⟨d1, d2, d3, d4⟩
    obtain ⟨dp', edp⟩ : ∃ d, d = decP s := ⟨_, rfl⟩
    obtain ⟨xl, exl⟩ : ∃ d, d = x.l := ⟨_, rfl⟩
    have HL : Hid (xl = x.l) := exl
    unfold DecPost at K
    rw [hX, hE, ← edp, ← exl] at K
    clear hd hX hE d1 d2 d3 d4 edp exl
    cases hI : itN x with
    | none =>
      have HN : Hid (decN KD s = none) := by show _ = _; rw [HN0.out, hI]
      go_enter Tryz.func107, Tryz.ntmps107
      go_wp2_with (first
        | (go_at_call 125; refine K.mono ?_; rintro e' w1 ⟨vb, vi, rfl, ho, b1⟩; obtain ⟨a2, blk, off2, k2, ⟨a1, n1, k1, rfl⟩, rfl, hits, hval⟩ := ho.its; have HB : Hid (Below w.heap.size w w1 ∧ w1.heap[w.heap.size]? = some (.cells (nc nz uz).toArray 110 (0, 0))) := ⟨ch HG.out.2.1 b1, (b1.block w.heap.size (by rw [HG.out.2.2]; omega)).trans HG.out.1⟩; have KN := nodeOf_any (x := x) (vb := .slice a1 n1 k1) (c := k2) ⟨_, _, _, rfl⟩ (hits.keep (below_alloc w1 (.cells #[.bool xl, .slice a1 n1 k1, .slice a2 x.xs.length k2] 191))); rw [← HL.out] at KN; clear b1 ho hits hval K)
        | (go_at_call 126; refine KN.mono ?_; rintro e' w3 ⟨n, u, rfl, b3, nW, one, hm⟩; rw [hI]; have B3 : Hid (Below w.heap.size w (w3.alloc (.cells (nc n u).toArray 110))) := ch (ch (ch HB.out.1 (below_alloc _ _)) b3) (below_alloc _ _); have g3 := keep2 (o2 := .cells (nc n u).toArray 110) HB.out.2 b3; clear b3 hm KN)
        | refine wpList_st29 (by kernel_rfl) _ _ (by rfl) n nz u uz nW nz_w one (by rfl) (by rfl) ?_
        | refine wpList_bd29 (by kernel_rfl) (by rfl) ?_
        | refine wpList_st29b (by kernel_rfl) _ _ (by rfl) w.heap.size nz nz uz uz nz_w nz_w (nin_zero w).one g3 (by rfl) (by rfl) ?_)
      have hr3 := setRow_heap (w3.alloc (.cells (nc n u).toArray 110)) w.heap.size _ (nc nz uz).toArray _ _ g3
      refine bodyPost_ret (res2n rfl _ _ w.heap.size _ _ _ nz_w (rng_row hr3) rfl rfl) rfl ?_
      have e1 : dN s = nz := by unfold dN; rw [HN.out]; rfl
      have e2 : dE s = 70 := by unfold dE; rw [HN.out]; rfl
      exact ⟨uz, by rw [e1, e2]; rfl, by rw [e1]; exact nout_zero _ _, below_setRow B3.out (by omega) _⟩
    | some m =>
      have HI : Hid (itN x = some m) := hI
      have HNi := itN_ok HD2.out.1 HD2.out.2.1 (by rw [HD2.out.2.2.1]; exact HD2.out.2.2.2) (by rw [HD2.out.2.2.1]; exact hs) hI
      rw [HD2.out.2.2.1] at HNi
      have HCK : Hid (Nck m) := ⟨fun _ _ => ih _ HNi.2.2.1, fun r hr _ _ => ih _ (HNi.2.2.2 r hr)⟩
      have mW := HNi.1
      obtain ⟨q, eq⟩ : ∃ q, q = mayN KD m := ⟨_, rfl⟩
      have HQ : Hid (q = mayN KD m ∧ decN KD s = if q then some m else none) := ⟨eq, by rw [HN0.out, hI, eq]⟩
      clear HNi eq hI
      have KM : ∀ {w4 : World} {u : Nv}, Nin w4 m u → Calls Tryz.prog 127 #[.agg (nc m u).toArray] w4 fun e w' => e = .returned (.bool q) ∧ Below w4.heap.size w4 w' := fun h => by rw [HQ.out.1]; exact mayN_any h HCK.out
      have HKM : Hid (∀ {w4 : World} {u : Nv}, Nin w4 m u → Calls Tryz.prog 127 #[.agg (nc m u).toArray] w4 fun e w' => e = .returned (.bool q) ∧ Below w4.heap.size w4 w') := KM
      clear KM
      have C1 : Hid (∀ {w1 : World} {vb vi : Value}, Own w1 (w.alloc (.cells (nc nz uz).toArray 110)).heap.size w1.heap.size x vb vi → Below (w.alloc (.cells (nc nz uz).toArray 110)).heap.size (w.alloc (.cells (nc nz uz).toArray 110)) w1 → ∃ a1 n1 k1 a2 k2, vb = .slice a1 n1 k1 ∧ vi = .slice a2 x.xs.length k2 ∧ Calls Tryz.prog 126 #[iv xl (.slice a1 n1 k1) (.slice a2 x.xs.length k2)] (w1.alloc (.cells #[.bool xl, .slice a1 n1 k1, .slice a2 x.xs.length k2] 191)) (fun e w3 => ∃ u, e = .returned (.tuple #[.agg (nc m u).toArray, .bool true]) ∧ Nout (w.heap.size + 1) w3 m u ∧ Below w1.heap.size w1 w3)) := fun {w1 vb vi} ho b1 => by
        obtain ⟨a2, blk, off2, k2, ⟨a1, n1, k1, rfl⟩, rfl, hits, hval⟩ := ho.its
        refine ⟨a1, n1, k1, a2, k2, rfl, rfl, ?_⟩
        have ba := below_alloc w1 (.cells #[.bool xl, .slice a1 n1 k1, .slice a2 x.xs.length k2] 191)
        have KN := nodeOf_any (x := x) (vb := .slice a1 n1 k1) (c := k2) ⟨_, _, _, rfl⟩ (hits.keep ba)
        rw [← HL.out] at KN
        refine KN.mono ?_
        rintro e' w3 ⟨n, u, rfl, b3, nW, one, hm⟩
        obtain ⟨rfl, nm, i, y, v, hy, hcell, hnv⟩ := hm m HI.out
        have hs3 := b3.size
        rw [World.size_alloc] at hs3
        have b13 : Below w1.heap.size w1 w3 := ch ba b3
        refine ⟨u, by rw [HI.out]; rfl, ?_, b13⟩
        have sz := HG.out.2.2
        have sz1 := b1.size
        rcases hnv with ⟨h1, h2, h3⟩ | ⟨h1, h2⟩
        · obtain ⟨_, _, _, _, _, _, _, f1, _⟩ := hits.get i y hy
          rw [ba.cell (World.block_lt_of_cell? _ _ f1)] at hcell
          obtain ⟨o1, o2, o3⟩ := hval i y v hy hcell h3
          rw [h1.symm] at o1 o2
          rw [h2.symm] at o1 o3
          exact Nout.of (B := (w1.alloc (.cells #[.bool xl, .slice a1 n1 k1, .slice a2 x.xs.length k2] 191)).heap.size) (hi := w1.heap.size) nW nm (own_rebase (own_same o1 (fun g hg => b13.block g (o1.lt g hg).2)) (fun g hg => by have := (o1.lt g hg).1; omega)) o3 o2 (by rw [World.size_alloc]; omega) (by rw [World.size_alloc]; omega)
        · refine Nout.of (B := (w1.alloc (.cells #[.bool xl, .slice a1 n1 k1, .slice a2 x.xs.length k2] 191)).heap.size) (hi := w1.heap.size) nW nm ?_ ?_ ?_ (by rw [World.size_alloc]; omega) (by rw [World.size_alloc]; omega)
          · rw [h1, h2]; exact own_nil _ _
          · rw [h2]; simp
          · rw [h1]; exact fun q hq => by cases hq
      have HC : Hid (∀ {w3 : World} {u : Nv}, Nout (w.heap.size + 1) w3 m u → Nin (w3.alloc (.cells (nc m u).toArray 110)) m u) := fun h => h.inn.keep (below_alloc _ _)
      cases q with
      | false =>
        have HN : Hid (decN KD s = none) := by show _ = _; rw [HQ.out.2]; rfl
        go_enter Tryz.func107, Tryz.ntmps107
        go_wp2_with (first
          | (go_at_call 125; refine K.mono ?_; rintro e' w1 ⟨vb, vi, rfl, ho, b1⟩; obtain ⟨a1, n1, k1, a2, k2, rfl, rfl, KN⟩ := C1.out ho b1; have HB : Hid (Below w.heap.size w w1 ∧ w1.heap[w.heap.size]? = some (.cells (nc nz uz).toArray 110 (0, 0))) := ⟨ch HG.out.2.1 b1, (b1.block w.heap.size (by rw [HG.out.2.2]; omega)).trans HG.out.1⟩; clear b1 ho K)
          | (go_at_call 126; refine KN.mono ?_; rintro e' w3 ⟨u, rfl, no, b3⟩; have one := no.inn.one; have HB3 : Hid (Below w.heap.size w (w3.alloc (.cells (nc m u).toArray 110)) ∧ (w3.alloc (.cells (nc m u).toArray 110)).heap[w.heap.size]? = some (.cells (nc nz uz).toArray 110 (0, 0))) := ⟨ch (ch HB.out.1 b3) (below_alloc _ _), (heap_alloc_old _ _ (Nat.lt_of_lt_of_le (Array.getElem?_eq_some_iff.1 HB.out.2).1 b3.size)).trans ((b3.block _ (Array.getElem?_eq_some_iff.1 HB.out.2).1).trans HB.out.2)⟩; have KM := HKM.out (HC.out no); have nb := nb_new mW w3 u; clear no b3 KN)
          | refine wpList_st29 (by kernel_rfl) _ _ (by rfl) m nz u uz mW nz_w one (by rfl) (by rfl) ?_
          | refine wpList_ld29 (by kernel_rfl) _ (by rfl) _ _ _ mW nb (by rfl) ?_
          | (go_at_call 127; refine KM.mono ?_; rintro e' w5 ⟨rfl, b5⟩; have B5 : Hid (Below w.heap.size w w5) := ch HB3.out.1 b5; have g5 := (b5.block _ (Array.getElem?_eq_some_iff.1 HB3.out.2).1).trans HB3.out.2; clear b5 KM)
          | refine wpList_bd29 (by kernel_rfl) (by rfl) ?_
          | refine wpList_st29b (by kernel_rfl) _ _ (by rfl) w.heap.size nz nz uz uz nz_w nz_w (nin_zero w).one g5 (by rfl) (by rfl) ?_)
        have hr3 := setRow_heap w5 w.heap.size _ (nc nz uz).toArray _ _ g5
        refine bodyPost_ret (res2n rfl _ _ w.heap.size _ _ _ nz_w (rng_row hr3) rfl rfl) rfl ?_
        have e1 : dN s = nz := by unfold dN; rw [HN.out]; rfl
        have e2 : dE s = 70 := by unfold dE; rw [HN.out]; rfl
        exact ⟨uz, by rw [e1, e2]; rfl, by rw [e1]; exact nout_zero _ _, below_setRow B5.out (by omega) _⟩
      | true =>
        have HN : Hid (decN KD s = some m) := by show _ = _; rw [HQ.out.2]; rfl
        go_enter Tryz.func107, Tryz.ntmps107
        go_wp2_with (first
          | (go_at_call 125; refine K.mono ?_; rintro e' w1 ⟨vb, vi, rfl, ho, b1⟩; obtain ⟨a1, n1, k1, a2, k2, rfl, rfl, KN⟩ := C1.out ho b1; have HB : Hid (Below w.heap.size w w1 ∧ w1.heap[w.heap.size]? = some (.cells (nc nz uz).toArray 110 (0, 0))) := ⟨ch HG.out.2.1 b1, (b1.block w.heap.size (by rw [HG.out.2.2]; omega)).trans HG.out.1⟩; clear b1 ho K)
          | (go_at_call 126; refine KN.mono ?_; rintro e' w3 ⟨u, rfl, no, b3⟩; have one := no.inn.one; have HB3 : Hid (Below w.heap.size w (w3.alloc (.cells (nc m u).toArray 110)) ∧ (w3.alloc (.cells (nc m u).toArray 110)).heap[w.heap.size]? = some (.cells (nc nz uz).toArray 110 (0, 0)) ∧ Nout (w.heap.size + 1) w3 m u) := ⟨ch (ch HB.out.1 b3) (below_alloc _ _), (heap_alloc_old _ _ (Nat.lt_of_lt_of_le (Array.getElem?_eq_some_iff.1 HB.out.2).1 b3.size)).trans ((b3.block _ (Array.getElem?_eq_some_iff.1 HB.out.2).1).trans HB.out.2), no⟩; have KM := HKM.out (HC.out no); have nb := nb_new mW w3 u; clear no b3 KN)
          | refine wpList_st29 (by kernel_rfl) _ _ (by rfl) m nz u uz mW nz_w one (by rfl) (by rfl) ?_
          | refine wpList_ld29 (by kernel_rfl) _ (by rfl) _ _ _ mW nb (by rfl) ?_
          | refine wpList_ld29 (by kernel_rfl) _ (by rfl) _ _ _ mW nb5 (by rfl) ?_
          | (go_at_call 127; refine KM.mono ?_; rintro e' w5 ⟨rfl, b5⟩; have B5 : Hid (Below w.heap.size w w5 ∧ Below (w3.alloc (.cells (nc m u).toArray 110)).heap.size (w3.alloc (.cells (nc m u).toArray 110)) w5) := ⟨ch HB3.out.1 b5, b5⟩; have g5 := (b5.block _ (Array.getElem?_eq_some_iff.1 HB3.out.2.1).1).trans HB3.out.2.1; have nb5 := nb.keep b5; clear b5 KM nb)
          | refine wpList_st29b (by kernel_rfl) _ _ (by rfl) w.heap.size m nz u uz mW nz_w one g5 (by rfl) (by rfl) ?_)
        have hr3 := setRow_heap w5 w.heap.size _ (nc m u).toArray _ _ g5
        refine bodyPost_ret (res2n rfl _ _ w.heap.size _ _ _ mW (rng_row hr3) rfl rfl) rfl ?_
        have e1 : dN s = m := by unfold dN; rw [HN.out]; rfl
        have e2 : dE s = 0 := by unfold dE; rw [HN.out]; rfl
        refine ⟨u, by rw [e1, e2]; rfl, ?_, below_setRow B5.out.1 (by omega) _⟩
        rw [e1]
        refine HB3.out.2.2.step (by omega) (fun g g1 g2 => ?_)
        rw [setRow_other _ _ _ _ (by omega), B5.out.2.block g (by rw [World.size_alloc]; omega), heap_alloc_old _ _ g2]
theorem dec_ok_all : ∀ (k : Nat) (s : List Nat), s.length < k → DecOK s := by
  intro k
  induction k with
  | zero => intro s h; omega
  | succ k ih => exact fun s h => dec_step s (fun t ht => ih t (by omega))
/-- DECODE -/
theorem ndecode_any (s : List Nat) : DecOK s := dec_ok_all (s.length + 1) s (by omega)
end Go.Proofs.YtepeolbbplodfaaGreatDoor
