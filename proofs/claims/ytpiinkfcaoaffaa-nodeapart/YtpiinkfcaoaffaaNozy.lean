import Derived.Test.YtpiinkfcaoaffaaBnzy
import Derived.Shelf.Abstract
/-
  nodeOf.
-/
namespace Go.Proofs.Ytpiinkfcaoaffaa
open Go.RowKit
theorem ePath : ∀ args w, (callFunc 37 args).run Try.prog w = .ok (.enter 37 args) w := enters_of Try.func37 (by rfl) (by rfl)
/-- what nodeOf answers -/
def NoPst (x : It) (blk off : Nat) (w : World) (e : Ending) (w' : World) : Prop :=
  ∃ n u, e = .returned (.tuple #[.agg (nc n u).toArray, .bool (itN x).isSome]) ∧ Below w.heap.size w w' ∧ n.W ∧ (nc n u).toArray.all (·.oneCell') = true ∧ ∀ m, itN x = some m → n = m ∧ Nmade w.heap.size w' n u ∧ ∃ i y vb, x.xs[i]? = some y ∧ w.cell? ⟨blk, off + i * 3 + 1, none⟩ = some vb ∧ Nval n u y vb
theorem Nmade.step {B B' : Nat} {w w' : World} {n : Nd} {u : Nv} (h : Nmade B w n u) (hB : B' ≤ B) (hs : ∀ g, B ≤ g → g < w.heap.size → w'.heap[g]? = w.heap[g]?) : Nmade B' w' n u :=
  ⟨own_rebase (own_same h.p (fun g hg => hs g (h.p.lt g hg).1 (h.p.lt g hg).2)) (fun g hg => by have := (h.p.lt g hg).1; omega), own_rebase (own_same h.x (fun g hg => hs g (h.x.lt g hg).1 (h.x.lt g hg).2)) (fun g hg => by have := (h.x.lt g hg).1; omega),
   fun hr => own_rebase (own_same (h.k hr) (fun g hg => hs g ((h.k hr).lt g hg).1 ((h.k hr).lt g hg).2)) (fun g hg => by have := ((h.k hr).lt g hg).1; omega), h.lp, h.lx, h.lk, h.apart⟩
set_option maxRecDepth 100000 in
set_option maxHeartbeats 3200000 in
theorem nodeOf_any {w : World} {x : It} {vb : Value} {a : Option Addr} {blk off c : Nat} (hvb : ∃ a n c, vb = .slice a n c) (h : Its Vb w x.xs a blk off) : Calls Try.prog 19 #[iv x.l vb (.slice a x.xs.length c)] w (NoPst x blk off w) := by
  have hz := zv29
  obtain ⟨a1, n1, k1, rfl⟩ := hvb
  obtain ⟨xl, exl⟩ : ∃ l, l = x.l := ⟨_, rfl⟩
  rw [← exl]
  obtain ⟨xs, exs⟩ : ∃ xs, xs = x.xs := ⟨_, rfl⟩
  rw [← exs] at h ⊢
  have HXS : Hid (xs = x.xs) := exs
  clear exl exs
  have HI : Hid (itN x = if xs.length = 2 then itP (xs.getD 0 itE) (xs.getD 1 itE) else if xs.length = 17 then itB (xs.take 16) (xs.getD 16 itE) else none) := by
    show itN x = _
    unfold itN
    rw [HXS.out]
  obtain ⟨n2, en2⟩ : ∃ n, n = xs.length := ⟨_, rfl⟩
  have hn := h.hn
  rw [← en2] at hn ⊢
  have HN : Hid (n2 = xs.length) := en2
  obtain ⟨a2, ea2⟩ : ∃ a2, a2 = a := ⟨_, rfl⟩
  obtain ⟨k2, ek2⟩ : ∃ k2, k2 = c := ⟨_, rfl⟩
  subst ea2 ek2
  clear en2
  have B0 : Below w.heap.size w ((w.alloc (.cells #[.bool xl, .slice a1 n1 k1, .slice a2 n2 k2] 51)).alloc (.cells (nc nz uz).toArray 29)) := (below_alloc _ _).alloc (by simp) _
  have HB : Hid (Below w.heap.size w ((w.alloc (.cells #[.bool xl, .slice a1 n1 k1, .slice a2 n2 k2] 51)).alloc (.cells (nc nz uz).toArray 29)) ∧ ((w.alloc (.cells #[.bool xl, .slice a1 n1 k1, .slice a2 n2 k2] 51)).alloc (.cells (nc nz uz).toArray 29)).heap.size = w.heap.size + 2) := ⟨B0, by simp⟩
  have g0 : ((w.alloc (.cells #[.bool xl, .slice a1 n1 k1, .slice a2 n2 k2] 51)).alloc (.cells (nc nz uz).toArray 29)).heap[w.heap.size + 1]? = some (.cells (nc nz uz).toArray 29 (0, 0)) := by
    have := heap_alloc_new (w.alloc (.cells #[.bool xl, .slice a1 n1 k1, .slice a2 n2 k2] 51)) (.cells (nc nz uz).toArray 29)
    rw [show (w.alloc (.cells #[.bool xl, .slice a1 n1 k1, .slice a2 n2 k2] 51)).heap.size = w.heap.size + 1 by simp] at this
    exact this
  have HG : Hid (((w.alloc (.cells #[.bool xl, .slice a1 n1 k1, .slice a2 n2 k2] 51)).alloc (.cells (nc nz uz).toArray 29)).heap[w.heap.size + 1]? = some (.cells (nc nz uz).toArray 29 (0, 0))) := g0
  have HX : Hid (Its Vb w xs a2 blk off) := h
  by_cases h2 : n2 = 2
  · subst h2
    obtain ⟨rfl, x0, b1, m1, l1, b2, m2, l2, hx0, -, d0, d1, d2, hL0⟩ := h.nth B0 (i := 0) (by have := HN.out; omega)
    obtain ⟨-, x1, c1, p1, q1, c2, p2, q2, hx1, -, e0, e1, e2, hL1⟩ := h.nth B0 (i := 1) (by have := HN.out; omega)
    have bx := (box_keep (below_alloc (w.alloc (.cells #[.bool xl, .slice a1 n1 k1, .slice (some ⟨blk, off, none⟩) 2 k2] 51)) (.cells (nc nz uz).toArray 29))).2.2
    have eI : itN x = itP x0 x1 := by
      rw [HI.out, if_pos HN.out.symm, List.getD_eq_getElem?_getD, List.getD_eq_getElem?_getD, hx0, hx1]
      rfl
    obtain ⟨x0l, ex0⟩ : ∃ l, l = x0.l := ⟨_, rfl⟩
    obtain ⟨x1l, ex1⟩ : ∃ l, l = x1.l := ⟨_, rfl⟩
    rw [← ex0] at d0
    rw [← ex1] at e0
    have HH : Hid (itN x = itP x0 x1 ∧ xs[1]? = some x1 ∧ Lies Vb ((w.alloc (.cells #[.bool xl, .slice a1 n1 k1, .slice (some ⟨blk, off, none⟩) 2 k2] 51)).alloc (.cells (nc nz uz).toArray 29)) x0 (.slice b1 m1 l1) (.slice b2 m2 l2) ∧ Lies Vb ((w.alloc (.cells #[.bool xl, .slice a1 n1 k1, .slice (some ⟨blk, off, none⟩) 2 k2] 51)).alloc (.cells (nc nz uz).toArray 29)) x1 (.slice c1 p1 q1) (.slice c2 p2 q2) ∧ x0l = x0.l ∧ x1l = x1.l) := ⟨eI, hx1, hL0, hL1, ex0, ex1⟩
    have HC : Hid (∀ w', Turn (fun q => q = w.heap.size + 1) ((w.alloc (.cells #[.bool xl, .slice a1 n1 k1, .slice (some ⟨blk, off, none⟩) 2 k2] 51)).alloc (.cells (nc nz uz).toArray 29)) w' → w'.cell? ⟨w.heap.size, 2, none⟩ = some (.slice (some ⟨blk, off, none⟩) 2 k2) ∧ (w'.cell? ⟨blk, off + 0 * 3, none⟩ = some (.bool x0l) ∧ w'.cell? ⟨blk, off + 0 * 3 + 1, none⟩ = some (.slice b1 m1 l1) ∧ w'.cell? ⟨blk, off + 0 * 3 + 2, none⟩ = some (.slice b2 m2 l2)) ∧ (w'.cell? ⟨blk, off + 1 * 3, none⟩ = some (.bool x1l) ∧ w'.cell? ⟨blk, off + 1 * 3 + 1, none⟩ = some (.slice c1 p1 q1) ∧ w'.cell? ⟨blk, off + 1 * 3 + 2, none⟩ = some (.slice c2 p2 q2))) := fun w' k => by
      have hb : blk < w.heap.size := by
        obtain ⟨_, _, _, _, _, _, f0, _⟩ := HX.out.get 1 x1 hx1
        exact World.block_lt_of_cell? _ _ f0
      have cc : ∀ (o : Nat), w'.cell? ⟨blk, o, none⟩ = ((w.alloc (.cells #[.bool xl, .slice a1 n1 k1, .slice (some ⟨blk, off, none⟩) 2 k2] 51)).alloc (.cells (nc nz uz).toArray 29)).cell? ⟨blk, o, none⟩ := fun o => k.cell (q := ⟨blk, o, none⟩) (by rw [HB.out.2]; show blk < _; omega) (by show ¬ blk = w.heap.size + 1; omega)
      refine ⟨(k.cell (q := ⟨w.heap.size, 2, none⟩) (World.block_lt_of_cell? _ _ bx) (by show ¬ w.heap.size = w.heap.size + 1; omega)).trans bx, ⟨(cc _).trans d0, (cc _).trans d1, (cc _).trans d2⟩, ⟨(cc _).trans e0, (cc _).trans e1, (cc _).trans e2⟩⟩
    have HD : Hid (w.cell? ⟨blk, off + 1 * 3 + 1, none⟩ = some (.slice c1 p1 q1)) := by
      obtain ⟨_, _, _, _, _, _, _, f1, _⟩ := HX.out.get 1 x1 hx1
      have q := (B0.cell (p := ⟨blk, off + 1 * 3 + 1, none⟩) (World.block_lt_of_cell? _ _ f1))
      rw [e1] at q
      exact q.symm
    clear hx0 hx1 hL0 hL1 ex0 ex1 d0 d1 d2 e0 e1 e2 bx eI h g0
    go_enter Try.func19, Try.ntmps19
    go_upto_region 3 with (fail)
    refine wp_region_held_drew (S := fun w' => Turn (fun q => q = w.heap.size + 1) ((w.alloc (.cells #[.bool xl, .slice a1 n1 k1, .slice (some ⟨blk, off, none⟩) 2 k2] 51)).alloc (.cells (nc nz uz).toArray 29)) w') (by kernel_rfl) (Turn.drew _) ?_
    intro hS
    change wpAnyH _ _ _ _ _ 13 _ _ _
    generalize hwd : ((w.alloc (.cells #[.bool xl, .slice a1 n1 k1, .slice (some ⟨blk, off, none⟩) 2 k2] 51)).alloc (.cells (nc nz uz).toArray 29)).drew = wd at hS ⊢
    have HWD : Hid (Below ((w.alloc (.cells #[.bool xl, .slice a1 n1 k1, .slice (some ⟨blk, off, none⟩) 2 k2] 51)).alloc (.cells (nc nz uz).toArray 29)).heap.size ((w.alloc (.cells #[.bool xl, .slice a1 n1 k1, .slice (some ⟨blk, off, none⟩) 2 k2] 51)).alloc (.cells (nc nz uz).toArray 29)) wd ∧ wd.heap[w.heap.size + 1]? = some (.cells (nc nz uz).toArray 29 (0, 0))) := by subst hwd; exact ⟨(Below.refl _ _).drew, HG.out⟩
    clear hwd
    refine wpAnyH_take (i := 0) (v := (.pointer (some ⟨w.heap.size, 2, none⟩))) (by simp only [List.getElem?_toArray, List.getElem?_cons_zero]; rfl) (by kernel_rfl) (by kernel_rfl) (by kernel_rfl) (by exact fun _ _ _ h => h) (y_f62 (by kernel_rfl) _ 2 rfl _ 0 rfl (by omega)) hS ?_
    try simp only [Act.put, List.setIfInBounds_toArray, List.set_cons_zero, List.set_cons_succ]
    refine wpAnyH_take (i := 1) (v := (.slice (some ⟨blk, off, none⟩) 2 k2)) (by simp only [List.getElem?_toArray, List.getElem?_cons_zero, List.getElem?_cons_succ]; rfl) (by kernel_rfl) (by kernel_rfl) (by kernel_rfl) (by exact fun _ _ _ h => h) (y_load60 (by kernel_rfl) _ rfl _ _ rfl _ (fun w' hs => (HC.out w' hs).1)) hS ?_
    try simp only [Act.put, List.setIfInBounds_toArray, List.set_cons_zero, List.set_cons_succ]
    refine wpAnyH_take (i := 2) (v := (.pointer (some ⟨blk, off + 0 * 3, none⟩))) (by simp only [List.getElem?_toArray, List.getElem?_cons_zero, List.getElem?_cons_succ]; rfl) (by kernel_rfl) (by kernel_rfl) (by kernel_rfl) (by exact fun _ _ _ h => h) (y_i60 (by kernel_rfl) _ _ rfl _ _ 2 k2 0 rfl rfl (by omega)) hS ?_
    try simp only [Act.put, List.setIfInBounds_toArray, List.set_cons_zero, List.set_cons_succ]
    refine wpAnyH_take (i := 3) (v := (.agg #[.bool x0l, .slice b1 m1 l1, .slice b2 m2 l2])) (by simp only [List.getElem?_toArray, List.getElem?_cons_zero, List.getElem?_cons_succ]; rfl) (by kernel_rfl) (by kernel_rfl) (by kernel_rfl) (by exact fun _ _ _ h => h) (y_ld62 (by kernel_rfl) _ rfl _ _ rfl _ _ _ (fun w' hs => (HC.out w' hs).2.1)) hS ?_
    try simp only [Act.put, List.setIfInBounds_toArray, List.set_cons_zero, List.set_cons_succ]
    refine wpAnyH_take (i := 4) (v := (.pointer (some ⟨w.heap.size, 2, none⟩))) (by simp only [List.getElem?_toArray, List.getElem?_cons_zero, List.getElem?_cons_succ]; rfl) (by kernel_rfl) (by kernel_rfl) (by kernel_rfl) (by exact fun _ _ _ h => h) (y_f62 (by kernel_rfl) _ 2 rfl _ 0 rfl (by omega)) hS ?_
    try simp only [Act.put, List.setIfInBounds_toArray, List.set_cons_zero, List.set_cons_succ]
    refine wpAnyH_take (i := 5) (v := (.slice (some ⟨blk, off, none⟩) 2 k2)) (by simp only [List.getElem?_toArray, List.getElem?_cons_zero, List.getElem?_cons_succ]; rfl) (by kernel_rfl) (by kernel_rfl) (by kernel_rfl) (by exact fun _ _ _ h => h) (y_load60 (by kernel_rfl) _ rfl _ _ rfl _ (fun w' hs => (HC.out w' hs).1)) hS ?_
    try simp only [Act.put, List.setIfInBounds_toArray, List.set_cons_zero, List.set_cons_succ]
    refine wpAnyH_take (i := 6) (v := (.pointer (some ⟨blk, off + 1 * 3, none⟩))) (by simp only [List.getElem?_toArray, List.getElem?_cons_zero, List.getElem?_cons_succ]; rfl) (by kernel_rfl) (by kernel_rfl) (by kernel_rfl) (by exact fun _ _ _ h => h) (y_i60 (by kernel_rfl) _ _ rfl _ _ 2 k2 1 rfl rfl (by omega)) hS ?_
    try simp only [Act.put, List.setIfInBounds_toArray, List.set_cons_zero, List.set_cons_succ]
    refine wpAnyH_take (i := 7) (v := (.agg #[.bool x1l, .slice c1 p1 q1, .slice c2 p2 q2])) (by simp only [List.getElem?_toArray, List.getElem?_cons_zero, List.getElem?_cons_succ]; rfl) (by kernel_rfl) (by kernel_rfl) (by kernel_rfl) (by exact fun _ _ _ h => h) (y_ld62 (by kernel_rfl) _ rfl _ _ rfl _ _ _ (fun w' hs => (HC.out w' hs).2.2)) hS ?_
    try simp only [Act.put, List.setIfInBounds_toArray, List.set_cons_zero, List.set_cons_succ]
    refine wpAnyH_ready (rs := [8]) (by kernel_rfl) (by simp) ?_
    refine AllReadyH.cons (by simp only [List.getElem?_toArray, List.getElem?_cons_zero, List.getElem?_cons_succ]; rfl) (fun K hK => ?_) AllReadyH.nil
    have KP := pathNode_any (HH.out.2.2.1.keep HWD.out.1) (HH.out.2.2.2.1.keep HWD.out.1)
    rw [← HH.out.2.2.2.2.1, ← HH.out.2.2.2.2.2] at KP
    refine r_call2 37 _ _ _ rfl (by kernel_rfl) _ _ rfl rfl ePath ?_
    refine KP.mono ?_
    rintro e w3 ⟨n, u, rfl, b3, nW, one, hm⟩
    refine ⟨_, rfl, ?_⟩
    have HZ : Hid (Below ((w.alloc (.cells #[.bool xl, .slice a1 n1 k1, .slice (some ⟨blk, off, none⟩) 2 k2] 51)).alloc (.cells (nc nz uz).toArray 29)).heap.size ((w.alloc (.cells #[.bool xl, .slice a1 n1 k1, .slice (some ⟨blk, off, none⟩) 2 k2] 51)).alloc (.cells (nc nz uz).toArray 29)) w3 ∧ ∀ m, itP x0 x1 = some m → n = m ∧ Nmade wd.heap.size w3 n u ∧ Nval n u x1 (.slice c1 p1 q1)) := ⟨ch HWD.out.1 b3, hm⟩
    have g3 := (b3.block (w.heap.size + 1) (by have := HWD.out.1.size; have := HB.out.2; omega)).trans HWD.out.2
    refine hK.out _ _ (hS.trans (Turn.of_below (F := fun q => q = w.heap.size + 1) b3) (fun _ q => Or.inl q)) (fun hS => ?_)
    clear b3 hm KP
    clear hK K
    try simp only [Act.put, List.setIfInBounds_toArray, List.set_cons_zero, List.set_cons_succ]
    refine wpAnyH_take (i := 9) (v := (.agg (nc n u).toArray)) (by simp only [List.getElem?_toArray, List.getElem?_cons_zero, List.getElem?_cons_succ]; rfl) (by kernel_rfl) (by kernel_rfl) (by kernel_rfl) (by exact fun _ _ _ h => h) (y_ext (by kernel_rfl) _ 0 rfl _ _ rfl rfl) hS ?_
    try simp only [Act.put, List.setIfInBounds_toArray, List.set_cons_zero, List.set_cons_succ]
    refine wpAnyH_take (i := 10) (v := (.bool (itP x0 x1).isSome)) (by simp only [List.getElem?_toArray, List.getElem?_cons_zero, List.getElem?_cons_succ]; rfl) (by kernel_rfl) (by kernel_rfl) (by kernel_rfl) (by exact fun _ _ _ h => h) (y_ext (by kernel_rfl) _ 1 rfl _ _ rfl rfl) hS ?_
    try simp only [Act.put, List.setIfInBounds_toArray, List.set_cons_zero, List.set_cons_succ]
    refine wpAnyH_ready (rs := [11]) (by kernel_rfl) (by simp) ?_
    refine AllReadyH.cons (by simp only [List.getElem?_toArray, List.getElem?_cons_zero, List.getElem?_cons_succ]; rfl) (fun K hK => ?_) AllReadyH.nil
    refine r_st29b (by kernel_rfl) _ _ rfl (w.heap.size + 1) n nz u uz nW nz_w one g3 rfl rfl ?_
    refine hK.out _ _ (hS.trans (Turn.setRow (F := fun q => q = w.heap.size + 1) _ _ _ rfl) (fun _ q => Or.inl q)) (fun hS => ?_)
    clear hK K
    try simp only [Act.put]
    refine wpAnyH_take (i := 12) (v := (.bool (itP x0 x1).isSome)) (by simp only [List.getElem?_toArray, List.getElem?_cons_zero, List.getElem?_cons_succ]; rfl) (by kernel_rfl) (by kernel_rfl) (by kernel_rfl) (by exact fun _ _ _ h => h) (y_assign (by kernel_rfl) _ rfl _ rfl) hS ?_
    try simp only [Act.put, List.setIfInBounds_toArray, List.set_cons_zero, List.set_cons_succ]
    refine wpAnyH_done (by kernel_rfl) ?_ _
    clear hS
    go_wp2_with fail
    have hr3 := setRow_heap w3 (w.heap.size + 1) _ (nc n u).toArray _ _ g3
    refine bodyPost_ret (res2n rfl _ _ (w.heap.size + 1) _ _ _ nW (rng_row hr3) rfl rfl) rfl ?_
    refine ⟨n, u, by rw [HH.out.1]; rfl, below_setRow (ch HB.out.1 HZ.out.1) (by omega) _, nW, one, fun m hm => ?_⟩
    rw [HH.out.1] at hm
    obtain ⟨r1, r2, r3⟩ := HZ.out.2 m hm
    have s0 := HB.out.2
    have s1 := HWD.out.1.size
    exact ⟨r1, r2.step (by omega) (fun g g1 g2 => setRow_other _ _ _ _ (by omega)), 1, x1, _, by rw [← HXS.out]; exact HH.out.2.1, HD.out, r3⟩
  · have j2 : ((n2 : Int) == 2) = false := by simp; omega
    have j2b : ¬ (n2 : Int) = 2 := by omega
    by_cases h17 : n2 = 17
    · subst h17
      obtain ⟨y, hy⟩ : ∃ y, xs[16]? = some y := ⟨_, List.getElem?_eq_getElem (by have := HN.out; omega)⟩
      obtain ⟨b1, m1, l1, b2, m2, l2, -, d1, -, -⟩ := HX.out.get 16 y hy
      have eI : itN x = itB (xs.take 16) y := by
        rw [HI.out, if_neg (by rw [← HN.out]; omega), if_pos HN.out.symm, List.getD_eq_getElem?_getD, hy]
        rfl
      have K := branchNode_any (c := k2) (h.keep B0) HN.out.symm hy ((B0.cell (p := ⟨blk, off + 16 * 3 + 1, none⟩) (World.block_lt_of_cell? _ _ d1)).trans d1)
      have HH : Hid (itN x = itB (xs.take 16) y ∧ xs[16]? = some y ∧ w.cell? ⟨blk, off + 16 * 3 + 1, none⟩ = some (.slice b1 m1 l1)) := ⟨eI, hy, d1⟩
      clear hy d1 eI h g0 B0
      go_enter Try.func19, Try.ntmps19
      go_wp2_with (first
        | (go_at_call 38; refine K.mono ?_; rintro e w3 ⟨n, u, rfl, b3, nW, one, hm⟩; have HZ : Hid (Below ((w.alloc (.cells #[.bool xl, .slice a1 n1 k1, .slice a2 17 k2] 51)).alloc (.cells (nc nz uz).toArray 29)).heap.size ((w.alloc (.cells #[.bool xl, .slice a1 n1 k1, .slice a2 17 k2] 51)).alloc (.cells (nc nz uz).toArray 29)) w3 ∧ ∀ m, itB (xs.take 16) y = some m → n = m ∧ Nmade ((w.alloc (.cells #[.bool xl, .slice a1 n1 k1, .slice a2 17 k2] 51)).alloc (.cells (nc nz uz).toArray 29)).heap.size w3 n u ∧ Nval n u y (.slice b1 m1 l1)) := ⟨b3, hm⟩; have g3 := (b3.block (w.heap.size + 1) (by rw [HB.out.2]; omega)).trans HG.out; clear b3 hm K)
        | refine wpList_st29b (by kernel_rfl) _ _ (by rfl) (w.heap.size + 1) n nz u uz nW nz_w one g3 (by rfl) (by rfl) ?_)
      have hr3 := setRow_heap w3 (w.heap.size + 1) _ (nc n u).toArray _ _ g3
      refine bodyPost_ret (res2n rfl _ _ (w.heap.size + 1) _ _ _ nW (rng_row hr3) rfl rfl) rfl ?_
      refine ⟨n, u, by rw [HH.out.1]; rfl, below_setRow (ch HB.out.1 HZ.out.1) (by omega) _, nW, one, fun m hm => ?_⟩
      rw [HH.out.1] at hm
      obtain ⟨r1, r2, r3⟩ := HZ.out.2 m hm
      have s0 := HB.out.2
      exact ⟨r1, r2.step (by omega) (fun g g1 g2 => setRow_other _ _ _ _ (by omega)), 16, y, _, by rw [← HXS.out]; exact HH.out.2.1, HH.out.2.2, r3⟩
    · have j17 : ((n2 : Int) == 17) = false := by simp; omega
      have j17b : ¬ (n2 : Int) = 17 := by omega
      have eI : Hid (itN x = none) := by show itN x = none; rw [HI.out, if_neg (by rw [← HN.out]; exact h2), if_neg (by rw [← HN.out]; exact h17)]
      clear h
      go_enter Try.func19, Try.ntmps19
      go_wp2_with (first
        | refine wpList_bd29 (by kernel_rfl) (by rfl) ?_
        | refine wpList_st29b (by kernel_rfl) _ _ (by rfl) (w.heap.size + 1) nz nz uz uz nz_w nz_w (nin_zero w).one g0 (by rfl) (by rfl) ?_)
      have hr3 := setRow_heap ((w.alloc (.cells #[.bool xl, .slice a1 n1 k1, .slice a2 n2 k2] 51)).alloc (.cells (nc nz uz).toArray 29)) (w.heap.size + 1) _ (nc nz uz).toArray _ _ g0
      refine bodyPost_ret (res2n rfl _ _ (w.heap.size + 1) _ _ _ nz_w (rng_row hr3) rfl rfl) rfl ?_
      refine ⟨nz, uz, by rw [eI.out]; rfl, below_setRow HB.out.1 (by omega) _, nz_w, (nin_zero w).one, fun m hm => ?_⟩
      rw [eI.out] at hm
      cases hm
end Go.Proofs.Ytpiinkfcaoaffaa
