import Derived.Test.YtpmdjopojcgpeaaGreatDoorIxq
import Derived.Test.YtpmdjopojcgpeaaGreatDoorYuq
/-
  (*Device).settle. (Written by gen_se.py.)
-/
namespace Go.Proofs.YtpmdjopojcgpeaaGreatDoor
open Go.RowKit Go.Maps Go.ChangeMaps

/-- has the access changed something? -/
def chgd (s : Dst) (l : List Nat) : Bool := anyT s || !decide (l = s.log)
/-- what settle makes of a device -/
def setl (s : Dst) (l : List Nat) : Dst := { s with tch := [], tm := if chgd s l = true then s.tm + 1 else s.tm }
theorem blk_cell {u : World} {b : Nat} {v : Value} {t : TypeId} (h : u.heap[b]? = some (.cells #[v] t (0, 0))) : u.cell? ⟨b, 0, none⟩ = some v := by
  have := cell_of_row u b 0 _ _ _ h
  simpa using this
set_option maxRecDepth 100000 in
set_option maxHeartbeats 6400000 in
theorem settle_any {w : World} {F : Nat → Prop} {g : Nat} {s : Dst} {X : Dx} (hd : Db w g (X.dvf s)) (h : Dr w F s X) (hB : ∀ i, w.heap.size ≤ i → F i) (hg : F g) (hN : X.N ≤ 1073741823) {lv : Value} {l : List Nat} (hl : Dat w F lv l) :
    Calls Tryz.prog 129 #[.pointer (some ⟨g, 0, none⟩), lv] w fun e w' => ∃ z, e = .returned z ∧ ∃ X', Db w' g (X'.dvf (setl s l)) ∧ Dr w' F (setl s l) X' ∧ X'.N ≤ X.N + 1 ∧ X'.E = X.E ∧ X'.lg = X.lg ∧ Turn F w w' := by
  obtain ⟨W, eW⟩ : ∃ W, W = w.alloc (.cells #[.pointer (some ⟨g, 0, none⟩)] 22) := ⟨_, rfl⟩
  have b0 : Below w.heap.size w W := by rw [eW]; exact (Below.refl _ _).alloc (Nat.le_refl _) _
  have hbx : W.heap[w.heap.size]? = some (.cells #[.pointer (some ⟨g, 0, none⟩)] 22 (0, 0)) := by rw [eW]; exact heap_alloc_new _ _
  have hgn : g ≠ w.heap.size := by have := hd.lt; omega
  obtain ⟨ta, tb, tcc, et, _⟩ := h.tcf'
  obtain ⟨la, lc, el⟩ := h.lsf
  obtain ⟨ga, gc, eg⟩ := own_slice h.lg.own
  obtain ⟨oa, oc, eo⟩ := own_slice hl.own
  obtain ⟨tn, etn⟩ : ∃ n, n = s.tch.length := ⟨_, rfl⟩
  obtain ⟨gn, egn⟩ : ∃ n, n = s.log.length := ⟨_, rfl⟩
  obtain ⟨on, eon⟩ : ∃ n, n = l.length := ⟨_, rfl⟩
  obtain ⟨ln, eln⟩ : ∃ n, n = s.tm := ⟨_, rfl⟩
  rw [← etn] at et
  rw [← egn] at eg
  rw [← eon] at eo
  rw [← eln] at el
  subst eo
  have HT : Hid (X.tc = .slice ta tn tcc ∧ X.ls = .slice la ln lc ∧ X.lg = .slice ga gn gc ∧ ln = s.tm) := ⟨et, el, eg, eln⟩
  have HW : Hid (∀ u, Below W.heap.size W u → Db u g (X.dvf s) ∧ Dr u F s X ∧ Dat u F (.slice oa on oc) l ∧ u.heap[w.heap.size]? = some (.cells #[.pointer (some ⟨g, 0, none⟩)] 22 (0, 0)) ∧ Below w.heap.size w u) := fun u b2 => by
    have b := ch b0 b2
    exact ⟨hd.keep b, h.keep b, hl.off (G := fun _ => False) (Turn.of_below b) (Off.none _ _), (b2.block _ (by rw [eW]; simp)).trans hbx, b⟩
  have HCO : Hid (Calls Tryz.prog 170 #[.slice ta tn tcc, .func (.func 171) #[] #[.pointer (some ⟨w.heap.size, 0, none⟩)]] W fun e w' => e = .returned (.bool (anyT s)) ∧ Below W.heap.size W w') := by
    have := contains_any (HW.out W (Below.refl _ _)).1 (HW.out W (Below.refl _ _)).2.1 (by omega) (bx := w.heap.size) (blk_cell hbx)
    rw [et] at this
    exact this
  have HF : Hid ((∀ i, w.heap.size ≤ i → F i) ∧ F g) := ⟨hB, hg⟩
  obtain ⟨c0, c1, c2, c3, c4, c5, c6, c7, c8, c9, c10, c11⟩ := (HW.out W (Below.refl _ _)).1.at_
  have c11' : W.cell? ⟨g, 43, none⟩ = some (.slice ta tn tcc) := by rw [← et]; exact c11
  have kbx := blk_cell hbx
  obtain ⟨q, hq⟩ : ∃ q, q = anyT s := ⟨_, rfl⟩
  have HQ : Hid (q = anyT s) := hq
  rw [← hq] at HCO
  rw [eW] at c11' kbx HCO
  clear c0 c1 c2 c3 c4 c5 c6 c7 c8 c9 c10 c11 hbx b0 hd h hl hB hg et el eg eon egn etn eln hq
  go_enter Tryz.func129, Tryz.ntmps129
  go_wp2_with (go_at_call 170; refine HCO.out.mono ?_)
  rintro e w1 ⟨rfl, b1⟩
  rw [← eW] at b1
  have HD1 : Hid (Db (w1.setCell ⟨g, 43, none⟩ nilS) g ({ X with tc := nilS }.dvf { s with tch := [] }) ∧ Dr (w1.setCell ⟨g, 43, none⟩ nilS) F { s with tch := [] } { X with tc := nilS } ∧ Dat (w1.setCell ⟨g, 43, none⟩ nilS) F (.slice oa on oc) l ∧ (w1.setCell ⟨g, 43, none⟩ nilS).heap[w.heap.size]? = some (.cells #[.pointer (some ⟨g, 0, none⟩)] 22 (0, 0)) ∧ Turn F w (w1.setCell ⟨g, 43, none⟩ nilS)) := by
    obtain ⟨q1, q2, q3, q4, q5⟩ := HW.out w1 b1
    have t : Turn (fun i => i = g) w1 (w1.setCell ⟨g, 43, none⟩ nilS) := Turn.setCell _ _ _ rfl
    refine ⟨q1.setTc nilS, (q2.self q1 t).untouch, q3.off t (Off.db q1 (by decide)), (t.block _ (Array.getElem?_eq_some_iff.1 q4).1 (fun e => hgn e.symm)).trans q4, (Turn.of_below q5).trans t (fun i e => Or.inl ?_)⟩
    show F i
    rw [e]
    exact HF.out.2
  obtain ⟨d0, d1, d2, d3, d4, d5, d6, d7, d8, d9, d10, d11⟩ := (HW.out w1 b1).1.at_
  have f43 := (HW.out w1 b1).1.frz 43
  have k1 := blk_cell (HW.out w1 b1).2.2.2.1
  have d11' : w1.cell? ⟨g, 43, none⟩ = some (.slice ta tn tcc) := by rw [← HT.out.1]; exact d11
  have d3' : w1.cell? ⟨g, 3, none⟩ = some (.slice ga gn gc) := by rw [← HT.out.2.2.1]; exact d3
  clear d0 d1 d2 d3 d4 d5 d6 d7 d8 d9 d10 d11 b1 HW HCO c11' kbx
  cases q with
  | true =>
    go_wp2_with fail
    have HC : Hid (chgd s l = true) := by
      show (anyT s || !decide (l = s.log)) = true
      rw [← HQ.out]
      rfl
    have c42 : ∀ o, ((w1.setCell ⟨g, 43, none⟩ nilS).drew.alloc o).cell? ⟨g, 0 + 42, none⟩ = some (.slice la ln lc) := fun o => by
      have := (HD1.out.1.keep (((Below.refl (w1.setCell ⟨g, 43, none⟩ nilS).heap.size (w1.setCell ⟨g, 43, none⟩ nilS)).drew).alloc (Nat.le_refl _) o)).at_.2.2.2.2.2.2.2.2.2.2.1
      rw [← HT.out.2.1]
      exact this
    have c42' : (w1.setCell ⟨g, 43, none⟩ nilS).drew.cell? ⟨g, 0 + 42, none⟩ = some (.slice la ln lc) := by
      have := HD1.out.1.at_.2.2.2.2.2.2.2.2.2.2.1
      rw [← HT.out.2.1]
      exact this
    refine wp_region_held_drew (S := fun u => u.heap[w.heap.size]? = some (.cells #[.pointer (some ⟨g, 0, none⟩)] 22 (0, 0))) (by kernel_rfl) (by exact HD1.out.2.2.2.1) ?_
    intro hS
    change wpAnyH _ _ _ _ _ 11 _ _ _
    refine wpAnyH_take (i := 0) (v := (.pointer (some ⟨g, 0, none⟩))) (by simp only [List.getElem?_toArray, List.getElem?_cons_zero]; rfl) (by kernel_rfl) (by kernel_rfl) (by kernel_rfl) (by exact fun _ _ _ h => h) (y_l_dev (by kernel_rfl) _ rfl _ _ rfl _ (fun u hs => blk_cell hs)) hS ?_
    try simp only [Act.put, List.setIfInBounds_toArray, List.set_cons_zero, List.set_cons_succ]
    refine wpAnyH_take (i := 1) (v := (.pointer (some ⟨g, 0, none⟩))) (by simp only [List.getElem?_toArray, List.getElem?_cons_zero, List.getElem?_cons_succ]; rfl) (by kernel_rfl) (by kernel_rfl) (by kernel_rfl) (by exact fun _ _ _ h => h) (y_l_dev (by kernel_rfl) _ rfl _ _ rfl _ (fun u hs => blk_cell hs)) hS ?_
    try simp only [Act.put, List.setIfInBounds_toArray, List.set_cons_zero, List.set_cons_succ]
    refine wpAnyH_take (i := 2) (v := (.pointer (some ⟨g, 0, none⟩))) (by simp only [List.getElem?_toArray, List.getElem?_cons_zero, List.getElem?_cons_succ]; rfl) (by kernel_rfl) (by kernel_rfl) (by kernel_rfl) (by exact fun _ _ _ h => h) (y_nil (by kernel_rfl) _ rfl _ rfl) hS ?_
    try simp only [Act.put, List.setIfInBounds_toArray, List.set_cons_zero, List.set_cons_succ]
    refine wpAnyH_take (i := 3) (v := (.pointer (some ⟨g, 0 + 42, none⟩))) (by simp only [List.getElem?_toArray, List.getElem?_cons_zero, List.getElem?_cons_succ]; rfl) (by kernel_rfl) (by kernel_rfl) (by kernel_rfl) (by exact fun _ _ _ h => h) (y_f_Dev10 (by kernel_rfl) _ rfl _ _ rfl) hS ?_
    try simp only [Act.put, List.setIfInBounds_toArray, List.set_cons_zero, List.set_cons_succ]
    refine wpAnyH_take (i := 5) (v := (.slice oa on oc)) (by simp only [List.getElem?_toArray, List.getElem?_cons_zero, List.getElem?_cons_succ]; rfl) (by kernel_rfl) (by kernel_rfl) (by kernel_rfl) (by exact fun _ _ _ h => h) (y_move (by kernel_rfl) _ rfl _ rfl) hS ?_
    try simp only [Act.put, List.setIfInBounds_toArray, List.set_cons_zero, List.set_cons_succ]
    refine wpAnyH_ready (rs := [4, 6]) (by kernel_rfl) (by simp) ?_
    refine AllReadyH.cons (by simp only [List.getElem?_toArray, List.getElem?_cons_zero, List.getElem?_cons_succ]; rfl) (fun K hK => ?_) (AllReadyH.cons (by simp only [List.getElem?_toArray, List.getElem?_cons_zero, List.getElem?_cons_succ]; rfl) (fun K hK => ?_) AllReadyH.nil)
    · refine r_yield (y_l_lists (by kernel_rfl) _ rfl _ _ rfl (.slice la ln lc) (fun u hs => by rw [hs]; exact c42')) ?_
      refine hK.out _ _ hS (fun hS => ?_)
      clear hK K
      try simp only [Act.put, List.setIfInBounds_toArray, List.set_cons_zero, List.set_cons_succ]
      refine wpAnyH_ready (rs := [6]) (by kernel_rfl) (by simp) ?_
      refine AllReadyH.cons (by simp only [List.getElem?_toArray, List.getElem?_cons_zero, List.getElem?_cons_succ]; rfl) (fun K hK => ?_) AllReadyH.nil
      refine r_one_lists (by kernel_rfl) _ rfl (.slice oa on oc) [.slice oa on oc] rfl rfl rfl ?_
      refine hK.out _ _ ((heap_alloc_old _ _ (Array.getElem?_eq_some_iff.1 hS).1).trans hS) (fun hS => ?_)
      clear hK K
      try simp only [Act.put, List.setIfInBounds_toArray, List.set_cons_zero, List.set_cons_succ]
      refine wpAnyH_ready (rs := [7]) (by kernel_rfl) (by simp) ?_
      refine AllReadyH.cons (by simp only [List.getElem?_toArray, List.getElem?_cons_zero, List.getElem?_cons_succ]; rfl) (fun K hK => ?_) AllReadyH.nil
      have hDr := HD1.out.2.1.keep (((Below.refl (w1.setCell ⟨g, 43, none⟩ nilS).heap.size (w1.setCell ⟨g, 43, none⟩ nilS)).drew).alloc (Nat.le_refl _) (.cells [Value.slice oa on oc].toArray 29))
      have hDb := HD1.out.1.keep (((Below.refl (w1.setCell ⟨g, 43, none⟩ nilS).heap.size (w1.setCell ⟨g, 43, none⟩ nilS)).drew).alloc (Nat.le_refl _) (.cells [Value.slice oa on oc].toArray 29))
      obtain ⟨xs, hlo⟩ := hDr.lo
      refine r_app_lists (by kernel_rfl) _ _ rfl (.slice la ln lc) s.tm xs rfl (by rw [← HT.out.2.1]; exact hlo) (w1.setCell ⟨g, 43, none⟩ nilS).drew.heap.size [.slice oa on oc] rfl rfl (rng_new _ _ _) (fun u hu => by rw [List.mem_singleton.1 hu]; rfl) (by have := hDr.bd.1; simp only at this; omega) ?_
      intro v' w3 own3 gr3 at3
      have gr3' : ((w1.setCell ⟨g, 43, none⟩ nilS).drew.alloc (.cells [Value.slice oa on oc].toArray 29)).grownBy w3 X.ls.ownBlock := by rw [HT.out.2.1]; exact gr3
      have at3' : v'.ownBlock = X.ls.ownBlock ∨ v'.ownBlock = some ((w1.setCell ⟨g, 43, none⟩ nilS).drew.alloc (.cells [Value.slice oa on oc].toArray 29)).heap.size := by rw [HT.out.2.1]; exact at3
      have hS3 : w3.heap[w.heap.size]? = some (.cells #[.pointer (some ⟨g, 0, none⟩)] 22 (0, 0)) := (gr3'.block _ (Array.getElem?_eq_some_iff.1 hS).1 (fun e => own_ne_cells hlo hS (by decide) e.symm)).trans hS
      have hDb3 : Db w3 g ({ X with tc := nilS }.dvf { s with tch := [] }) := hDb.turn (Turn.of_grown (F := fun i => X.ls.ownBlock = some i) gr3' (fun _ e => e)) (fun e => own_ne_cells hlo hDb.blk (by decide) e)
      have hDr3 := hDr.change (fun i hi => HF.out.1 i (Nat.le_trans (Nat.le_trans HD1.out.2.2.2.2.size (Turn.alloc (F := fun _ => False) (w1.setCell ⟨g, 43, none⟩ nilS).drew (.cells [Value.slice oa on oc].toArray 29)).size) hi)) own3 gr3' at3'
      have t3 : Turn F w w3 := ((HD1.out.2.2.2.2.trans (Turn.drew _) (fun _ q => Or.inl q)).trans (Turn.alloc _ _) (fun _ q => Or.inl q)).trans (Turn.of_grown (F := fun i => X.ls.ownBlock = some i) gr3' (fun _ e => e)) (fun i e => Or.inl (hDr.lof i e))
      obtain ⟨va, vc, ev⟩ := own_slice own3
      subst ev
      clear own3 gr3 at3 gr3' at3' hlo
      refine hK.out _ _ hS3 (fun hS => ?_)
      clear hK K
      try simp only [Act.put, List.setIfInBounds_toArray, List.set_cons_zero, List.set_cons_succ]
      refine wpAnyH_take (i := 8) (v := (.pointer (some ⟨g, 0, none⟩))) (by simp only [List.getElem?_toArray, List.getElem?_cons_zero, List.getElem?_cons_succ]; rfl) (by kernel_rfl) (by kernel_rfl) (by kernel_rfl) (by exact fun _ _ _ h => h) (y_nil (by kernel_rfl) _ rfl _ rfl) hS ?_
      try simp only [Act.put, List.setIfInBounds_toArray, List.set_cons_zero, List.set_cons_succ]
      refine wpAnyH_take (i := 9) (v := (.pointer (some ⟨g, 0 + 42, none⟩))) (by simp only [List.getElem?_toArray, List.getElem?_cons_zero, List.getElem?_cons_succ]; rfl) (by kernel_rfl) (by kernel_rfl) (by kernel_rfl) (by exact fun _ _ _ h => h) (y_f_Dev10 (by kernel_rfl) _ rfl _ _ rfl) hS ?_
      try simp only [Act.put, List.setIfInBounds_toArray, List.set_cons_zero, List.set_cons_succ]
      refine wpAnyH_ready (rs := [10]) (by kernel_rfl) (by simp) ?_
      refine AllReadyH.cons (by simp only [List.getElem?_toArray, List.getElem?_cons_zero, List.getElem?_cons_succ]; rfl) (fun K hK => ?_) AllReadyH.nil
      refine r_s_lists (by kernel_rfl) _ _ rfl g (0 + 42) rfl (.slice va (s.tm + 1) vc) _ rfl ⟨_, _, _, rfl⟩ hDb3.at_.2.2.2.2.2.2.2.2.2.2.1 (hDb3.frz 42) ?_
      have t4 : Turn (fun i => i = g) w3 (w3.setCell ⟨g, 0 + 42, none⟩ (.slice va (s.tm + 1) vc)) := Turn.setCell _ _ _ rfl
      have HFIN : Hid (Db (w3.setCell ⟨g, 0 + 42, none⟩ (.slice va (s.tm + 1) vc)) g ({ X with tc := nilS, ls := .slice va (s.tm + 1) vc, N := X.N + 1 }.dvf { s with tch := [], tm := s.tm + 1 }) ∧ Dr (w3.setCell ⟨g, 0 + 42, none⟩ (.slice va (s.tm + 1) vc)) F { s with tch := [], tm := s.tm + 1 } { X with tc := nilS, ls := .slice va (s.tm + 1) vc, N := X.N + 1 } ∧ Turn F w (w3.setCell ⟨g, 0 + 42, none⟩ (.slice va (s.tm + 1) vc))) :=
        ⟨hDb3.setLs _, hDr3.self hDb3 t4, t3.trans t4 (fun i e => Or.inl (by show F i; rw [e]; exact HF.out.2))⟩
      refine hK.out _ _ ((t4.block _ (Array.getElem?_eq_some_iff.1 hS).1 (fun e => hgn e.symm)).trans hS) (fun hS => ?_)
      clear hDb3 hDr3 t3 t4 hDr hDb
      clear hK K
      try simp only [Act.put]
      refine wpAnyH_done (by kernel_rfl) ?_ _
      clear hS
      go_wp2_with fail
      refine bodyPost_end (results_none rfl _ _ _) rfl ⟨_, rfl, { X with tc := nilS, ls := .slice va (s.tm + 1) vc, N := X.N + 1 }, ?_, ?_, Nat.le_refl _, rfl, rfl, HFIN.out.2.2⟩
      · have := HFIN.out.1
        unfold setl
        rw [HC.out]
        exact this
      · have := HFIN.out.2.1
        unfold setl
        rw [HC.out]
        exact this
    · refine r_one_lists (by kernel_rfl) _ rfl (.slice oa on oc) [.slice oa on oc] rfl rfl rfl ?_
      refine hK.out _ _ ((heap_alloc_old _ _ (Array.getElem?_eq_some_iff.1 hS).1).trans hS) (fun hS => ?_)
      clear hK K
      try simp only [Act.put, List.setIfInBounds_toArray, List.set_cons_zero, List.set_cons_succ]
      refine wpAnyH_ready (rs := [4]) (by kernel_rfl) (by simp) ?_
      refine AllReadyH.cons (by simp only [List.getElem?_toArray, List.getElem?_cons_zero, List.getElem?_cons_succ]; rfl) (fun K hK => ?_) AllReadyH.nil
      refine r_yield (y_l_lists (by kernel_rfl) _ rfl _ _ rfl (.slice la ln lc) (fun u hs => by rw [hs]; exact c42 _)) ?_
      refine hK.out _ _ hS (fun hS => ?_)
      clear hK K
      try simp only [Act.put, List.setIfInBounds_toArray, List.set_cons_zero, List.set_cons_succ]
      refine wpAnyH_ready (rs := [7]) (by kernel_rfl) (by simp) ?_
      refine AllReadyH.cons (by simp only [List.getElem?_toArray, List.getElem?_cons_zero, List.getElem?_cons_succ]; rfl) (fun K hK => ?_) AllReadyH.nil
      have hDr := HD1.out.2.1.keep (((Below.refl (w1.setCell ⟨g, 43, none⟩ nilS).heap.size (w1.setCell ⟨g, 43, none⟩ nilS)).drew).alloc (Nat.le_refl _) (.cells [Value.slice oa on oc].toArray 29))
      have hDb := HD1.out.1.keep (((Below.refl (w1.setCell ⟨g, 43, none⟩ nilS).heap.size (w1.setCell ⟨g, 43, none⟩ nilS)).drew).alloc (Nat.le_refl _) (.cells [Value.slice oa on oc].toArray 29))
      obtain ⟨xs, hlo⟩ := hDr.lo
      refine r_app_lists (by kernel_rfl) _ _ rfl (.slice la ln lc) s.tm xs rfl (by rw [← HT.out.2.1]; exact hlo) (w1.setCell ⟨g, 43, none⟩ nilS).drew.heap.size [.slice oa on oc] rfl rfl (rng_new _ _ _) (fun u hu => by rw [List.mem_singleton.1 hu]; rfl) (by have := hDr.bd.1; simp only at this; omega) ?_
      intro v' w3 own3 gr3 at3
      have gr3' : ((w1.setCell ⟨g, 43, none⟩ nilS).drew.alloc (.cells [Value.slice oa on oc].toArray 29)).grownBy w3 X.ls.ownBlock := by rw [HT.out.2.1]; exact gr3
      have at3' : v'.ownBlock = X.ls.ownBlock ∨ v'.ownBlock = some ((w1.setCell ⟨g, 43, none⟩ nilS).drew.alloc (.cells [Value.slice oa on oc].toArray 29)).heap.size := by rw [HT.out.2.1]; exact at3
      have hS3 : w3.heap[w.heap.size]? = some (.cells #[.pointer (some ⟨g, 0, none⟩)] 22 (0, 0)) := (gr3'.block _ (Array.getElem?_eq_some_iff.1 hS).1 (fun e => own_ne_cells hlo hS (by decide) e.symm)).trans hS
      have hDb3 : Db w3 g ({ X with tc := nilS }.dvf { s with tch := [] }) := hDb.turn (Turn.of_grown (F := fun i => X.ls.ownBlock = some i) gr3' (fun _ e => e)) (fun e => own_ne_cells hlo hDb.blk (by decide) e)
      have hDr3 := hDr.change (fun i hi => HF.out.1 i (Nat.le_trans (Nat.le_trans HD1.out.2.2.2.2.size (Turn.alloc (F := fun _ => False) (w1.setCell ⟨g, 43, none⟩ nilS).drew (.cells [Value.slice oa on oc].toArray 29)).size) hi)) own3 gr3' at3'
      have t3 : Turn F w w3 := ((HD1.out.2.2.2.2.trans (Turn.drew _) (fun _ q => Or.inl q)).trans (Turn.alloc _ _) (fun _ q => Or.inl q)).trans (Turn.of_grown (F := fun i => X.ls.ownBlock = some i) gr3' (fun _ e => e)) (fun i e => Or.inl (hDr.lof i e))
      obtain ⟨va, vc, ev⟩ := own_slice own3
      subst ev
      clear own3 gr3 at3 gr3' at3' hlo
      refine hK.out _ _ hS3 (fun hS => ?_)
      clear hK K
      try simp only [Act.put, List.setIfInBounds_toArray, List.set_cons_zero, List.set_cons_succ]
      refine wpAnyH_take (i := 8) (v := (.pointer (some ⟨g, 0, none⟩))) (by simp only [List.getElem?_toArray, List.getElem?_cons_zero, List.getElem?_cons_succ]; rfl) (by kernel_rfl) (by kernel_rfl) (by kernel_rfl) (by exact fun _ _ _ h => h) (y_nil (by kernel_rfl) _ rfl _ rfl) hS ?_
      try simp only [Act.put, List.setIfInBounds_toArray, List.set_cons_zero, List.set_cons_succ]
      refine wpAnyH_take (i := 9) (v := (.pointer (some ⟨g, 0 + 42, none⟩))) (by simp only [List.getElem?_toArray, List.getElem?_cons_zero, List.getElem?_cons_succ]; rfl) (by kernel_rfl) (by kernel_rfl) (by kernel_rfl) (by exact fun _ _ _ h => h) (y_f_Dev10 (by kernel_rfl) _ rfl _ _ rfl) hS ?_
      try simp only [Act.put, List.setIfInBounds_toArray, List.set_cons_zero, List.set_cons_succ]
      refine wpAnyH_ready (rs := [10]) (by kernel_rfl) (by simp) ?_
      refine AllReadyH.cons (by simp only [List.getElem?_toArray, List.getElem?_cons_zero, List.getElem?_cons_succ]; rfl) (fun K hK => ?_) AllReadyH.nil
      refine r_s_lists (by kernel_rfl) _ _ rfl g (0 + 42) rfl (.slice va (s.tm + 1) vc) _ rfl ⟨_, _, _, rfl⟩ hDb3.at_.2.2.2.2.2.2.2.2.2.2.1 (hDb3.frz 42) ?_
      have t4 : Turn (fun i => i = g) w3 (w3.setCell ⟨g, 0 + 42, none⟩ (.slice va (s.tm + 1) vc)) := Turn.setCell _ _ _ rfl
      have HFIN : Hid (Db (w3.setCell ⟨g, 0 + 42, none⟩ (.slice va (s.tm + 1) vc)) g ({ X with tc := nilS, ls := .slice va (s.tm + 1) vc, N := X.N + 1 }.dvf { s with tch := [], tm := s.tm + 1 }) ∧ Dr (w3.setCell ⟨g, 0 + 42, none⟩ (.slice va (s.tm + 1) vc)) F { s with tch := [], tm := s.tm + 1 } { X with tc := nilS, ls := .slice va (s.tm + 1) vc, N := X.N + 1 } ∧ Turn F w (w3.setCell ⟨g, 0 + 42, none⟩ (.slice va (s.tm + 1) vc))) :=
        ⟨hDb3.setLs _, hDr3.self hDb3 t4, t3.trans t4 (fun i e => Or.inl (by show F i; rw [e]; exact HF.out.2))⟩
      refine hK.out _ _ ((t4.block _ (Array.getElem?_eq_some_iff.1 hS).1 (fun e => hgn e.symm)).trans hS) (fun hS => ?_)
      clear hDb3 hDr3 t3 t4 hDr hDb
      clear hK K
      try simp only [Act.put]
      refine wpAnyH_done (by kernel_rfl) ?_ _
      clear hS
      go_wp2_with fail
      refine bodyPost_end (results_none rfl _ _ _) rfl ⟨_, rfl, { X with tc := nilS, ls := .slice va (s.tm + 1) vc, N := X.N + 1 }, ?_, ?_, Nat.le_refl _, rfl, rfl, HFIN.out.2.2⟩
      · have := HFIN.out.1
        unfold setl
        rw [HC.out]
        exact this
      · have := HFIN.out.2.1
        unfold setl
        rw [HC.out]
        exact this
  | false =>
    have HE : Hid (Calls Tryz.prog 91 #[.slice oa on oc, .slice ga gn gc] (w1.setCell ⟨g, 43, none⟩ nilS) fun e w' => e = .returned (.bool (decide (l = s.log))) ∧ w' = w1.setCell ⟨g, 43, none⟩ nilS) := by
      obtain ⟨a1, b1, o1, k1, e1, v1, _⟩ := HD1.out.2.2.1.vb
      obtain ⟨a2, b2, o2, k2, e2, v2, _⟩ := HD1.out.2.1.lg.vb
      have e3 : X.lg = .slice a2 s.log.length k2 := e2
      rw [HT.out.2.2.1] at e3
      have := bEqual_any (c := k1) (c' := k2) v1 v2
      rw [← e1, ← e3] at this
      exact this
    obtain ⟨r, hr⟩ : ∃ r, r = decide (l = s.log) := ⟨_, rfl⟩
    have HR : Hid (r = decide (l = s.log)) := hr
    rw [← hr] at HE
    clear hr
    cases r with
    | true =>
      have HC : Hid (chgd s l = false) := by
        show (anyT s || !decide (l = s.log)) = false
        rw [← HQ.out, ← HR.out]
        rfl
      go_wp2_with (go_at_call 91; refine HE.out.mono ?_; rintro e w2 ⟨rfl, rfl⟩)
      refine bodyPost_end (results_none rfl _ _ _) rfl ⟨_, rfl, { X with tc := nilS }, ?_, ?_, Nat.le_succ _, rfl, rfl, HD1.out.2.2.2.2⟩
      · have := HD1.out.1
        unfold setl
        rw [HC.out]
        exact this
      · have := HD1.out.2.1
        unfold setl
        rw [HC.out]
        exact this
    | false =>
      go_wp2_with (go_at_call 91; refine HE.out.mono ?_; rintro e w2 ⟨rfl, rfl⟩)
      have HC : Hid (chgd s l = true) := by
        show (anyT s || !decide (l = s.log)) = true
        rw [← HQ.out, ← HR.out]
        rfl
      have c42 : ∀ o, ((w1.setCell ⟨g, 43, none⟩ nilS).drew.alloc o).cell? ⟨g, 0 + 42, none⟩ = some (.slice la ln lc) := fun o => by
        have := (HD1.out.1.keep (((Below.refl (w1.setCell ⟨g, 43, none⟩ nilS).heap.size (w1.setCell ⟨g, 43, none⟩ nilS)).drew).alloc (Nat.le_refl _) o)).at_.2.2.2.2.2.2.2.2.2.2.1
        rw [← HT.out.2.1]
        exact this
      have c42' : (w1.setCell ⟨g, 43, none⟩ nilS).drew.cell? ⟨g, 0 + 42, none⟩ = some (.slice la ln lc) := by
        have := HD1.out.1.at_.2.2.2.2.2.2.2.2.2.2.1
        rw [← HT.out.2.1]
        exact this
      refine wp_region_held_drew (S := fun u => u.heap[w.heap.size]? = some (.cells #[.pointer (some ⟨g, 0, none⟩)] 22 (0, 0))) (by kernel_rfl) (by exact HD1.out.2.2.2.1) ?_
      intro hS
      change wpAnyH _ _ _ _ _ 11 _ _ _
      refine wpAnyH_take (i := 0) (v := (.pointer (some ⟨g, 0, none⟩))) (by simp only [List.getElem?_toArray, List.getElem?_cons_zero]; rfl) (by kernel_rfl) (by kernel_rfl) (by kernel_rfl) (by exact fun _ _ _ h => h) (y_l_dev (by kernel_rfl) _ rfl _ _ rfl _ (fun u hs => blk_cell hs)) hS ?_
      try simp only [Act.put, List.setIfInBounds_toArray, List.set_cons_zero, List.set_cons_succ]
      refine wpAnyH_take (i := 1) (v := (.pointer (some ⟨g, 0, none⟩))) (by simp only [List.getElem?_toArray, List.getElem?_cons_zero, List.getElem?_cons_succ]; rfl) (by kernel_rfl) (by kernel_rfl) (by kernel_rfl) (by exact fun _ _ _ h => h) (y_l_dev (by kernel_rfl) _ rfl _ _ rfl _ (fun u hs => blk_cell hs)) hS ?_
      try simp only [Act.put, List.setIfInBounds_toArray, List.set_cons_zero, List.set_cons_succ]
      refine wpAnyH_take (i := 2) (v := (.pointer (some ⟨g, 0, none⟩))) (by simp only [List.getElem?_toArray, List.getElem?_cons_zero, List.getElem?_cons_succ]; rfl) (by kernel_rfl) (by kernel_rfl) (by kernel_rfl) (by exact fun _ _ _ h => h) (y_nil (by kernel_rfl) _ rfl _ rfl) hS ?_
      try simp only [Act.put, List.setIfInBounds_toArray, List.set_cons_zero, List.set_cons_succ]
      refine wpAnyH_take (i := 3) (v := (.pointer (some ⟨g, 0 + 42, none⟩))) (by simp only [List.getElem?_toArray, List.getElem?_cons_zero, List.getElem?_cons_succ]; rfl) (by kernel_rfl) (by kernel_rfl) (by kernel_rfl) (by exact fun _ _ _ h => h) (y_f_Dev10 (by kernel_rfl) _ rfl _ _ rfl) hS ?_
      try simp only [Act.put, List.setIfInBounds_toArray, List.set_cons_zero, List.set_cons_succ]
      refine wpAnyH_take (i := 5) (v := (.slice oa on oc)) (by simp only [List.getElem?_toArray, List.getElem?_cons_zero, List.getElem?_cons_succ]; rfl) (by kernel_rfl) (by kernel_rfl) (by kernel_rfl) (by exact fun _ _ _ h => h) (y_move (by kernel_rfl) _ rfl _ rfl) hS ?_
      try simp only [Act.put, List.setIfInBounds_toArray, List.set_cons_zero, List.set_cons_succ]
      refine wpAnyH_ready (rs := [4, 6]) (by kernel_rfl) (by simp) ?_
      refine AllReadyH.cons (by simp only [List.getElem?_toArray, List.getElem?_cons_zero, List.getElem?_cons_succ]; rfl) (fun K hK => ?_) (AllReadyH.cons (by simp only [List.getElem?_toArray, List.getElem?_cons_zero, List.getElem?_cons_succ]; rfl) (fun K hK => ?_) AllReadyH.nil)
      · refine r_yield (y_l_lists (by kernel_rfl) _ rfl _ _ rfl (.slice la ln lc) (fun u hs => by rw [hs]; exact c42')) ?_
        refine hK.out _ _ hS (fun hS => ?_)
        clear hK K
        try simp only [Act.put, List.setIfInBounds_toArray, List.set_cons_zero, List.set_cons_succ]
        refine wpAnyH_ready (rs := [6]) (by kernel_rfl) (by simp) ?_
        refine AllReadyH.cons (by simp only [List.getElem?_toArray, List.getElem?_cons_zero, List.getElem?_cons_succ]; rfl) (fun K hK => ?_) AllReadyH.nil
        refine r_one_lists (by kernel_rfl) _ rfl (.slice oa on oc) [.slice oa on oc] rfl rfl rfl ?_
        refine hK.out _ _ ((heap_alloc_old _ _ (Array.getElem?_eq_some_iff.1 hS).1).trans hS) (fun hS => ?_)
        clear hK K
        try simp only [Act.put, List.setIfInBounds_toArray, List.set_cons_zero, List.set_cons_succ]
        refine wpAnyH_ready (rs := [7]) (by kernel_rfl) (by simp) ?_
        refine AllReadyH.cons (by simp only [List.getElem?_toArray, List.getElem?_cons_zero, List.getElem?_cons_succ]; rfl) (fun K hK => ?_) AllReadyH.nil
        have hDr := HD1.out.2.1.keep (((Below.refl (w1.setCell ⟨g, 43, none⟩ nilS).heap.size (w1.setCell ⟨g, 43, none⟩ nilS)).drew).alloc (Nat.le_refl _) (.cells [Value.slice oa on oc].toArray 29))
        have hDb := HD1.out.1.keep (((Below.refl (w1.setCell ⟨g, 43, none⟩ nilS).heap.size (w1.setCell ⟨g, 43, none⟩ nilS)).drew).alloc (Nat.le_refl _) (.cells [Value.slice oa on oc].toArray 29))
        obtain ⟨xs, hlo⟩ := hDr.lo
        refine r_app_lists (by kernel_rfl) _ _ rfl (.slice la ln lc) s.tm xs rfl (by rw [← HT.out.2.1]; exact hlo) (w1.setCell ⟨g, 43, none⟩ nilS).drew.heap.size [.slice oa on oc] rfl rfl (rng_new _ _ _) (fun u hu => by rw [List.mem_singleton.1 hu]; rfl) (by have := hDr.bd.1; simp only at this; omega) ?_
        intro v' w3 own3 gr3 at3
        have gr3' : ((w1.setCell ⟨g, 43, none⟩ nilS).drew.alloc (.cells [Value.slice oa on oc].toArray 29)).grownBy w3 X.ls.ownBlock := by rw [HT.out.2.1]; exact gr3
        have at3' : v'.ownBlock = X.ls.ownBlock ∨ v'.ownBlock = some ((w1.setCell ⟨g, 43, none⟩ nilS).drew.alloc (.cells [Value.slice oa on oc].toArray 29)).heap.size := by rw [HT.out.2.1]; exact at3
        have hS3 : w3.heap[w.heap.size]? = some (.cells #[.pointer (some ⟨g, 0, none⟩)] 22 (0, 0)) := (gr3'.block _ (Array.getElem?_eq_some_iff.1 hS).1 (fun e => own_ne_cells hlo hS (by decide) e.symm)).trans hS
        have hDb3 : Db w3 g ({ X with tc := nilS }.dvf { s with tch := [] }) := hDb.turn (Turn.of_grown (F := fun i => X.ls.ownBlock = some i) gr3' (fun _ e => e)) (fun e => own_ne_cells hlo hDb.blk (by decide) e)
        have hDr3 := hDr.change (fun i hi => HF.out.1 i (Nat.le_trans (Nat.le_trans HD1.out.2.2.2.2.size (Turn.alloc (F := fun _ => False) (w1.setCell ⟨g, 43, none⟩ nilS).drew (.cells [Value.slice oa on oc].toArray 29)).size) hi)) own3 gr3' at3'
        have t3 : Turn F w w3 := ((HD1.out.2.2.2.2.trans (Turn.drew _) (fun _ q => Or.inl q)).trans (Turn.alloc _ _) (fun _ q => Or.inl q)).trans (Turn.of_grown (F := fun i => X.ls.ownBlock = some i) gr3' (fun _ e => e)) (fun i e => Or.inl (hDr.lof i e))
        obtain ⟨va, vc, ev⟩ := own_slice own3
        subst ev
        clear own3 gr3 at3 gr3' at3' hlo
        refine hK.out _ _ hS3 (fun hS => ?_)
        clear hK K
        try simp only [Act.put, List.setIfInBounds_toArray, List.set_cons_zero, List.set_cons_succ]
        refine wpAnyH_take (i := 8) (v := (.pointer (some ⟨g, 0, none⟩))) (by simp only [List.getElem?_toArray, List.getElem?_cons_zero, List.getElem?_cons_succ]; rfl) (by kernel_rfl) (by kernel_rfl) (by kernel_rfl) (by exact fun _ _ _ h => h) (y_nil (by kernel_rfl) _ rfl _ rfl) hS ?_
        try simp only [Act.put, List.setIfInBounds_toArray, List.set_cons_zero, List.set_cons_succ]
        refine wpAnyH_take (i := 9) (v := (.pointer (some ⟨g, 0 + 42, none⟩))) (by simp only [List.getElem?_toArray, List.getElem?_cons_zero, List.getElem?_cons_succ]; rfl) (by kernel_rfl) (by kernel_rfl) (by kernel_rfl) (by exact fun _ _ _ h => h) (y_f_Dev10 (by kernel_rfl) _ rfl _ _ rfl) hS ?_
        try simp only [Act.put, List.setIfInBounds_toArray, List.set_cons_zero, List.set_cons_succ]
        refine wpAnyH_ready (rs := [10]) (by kernel_rfl) (by simp) ?_
        refine AllReadyH.cons (by simp only [List.getElem?_toArray, List.getElem?_cons_zero, List.getElem?_cons_succ]; rfl) (fun K hK => ?_) AllReadyH.nil
        refine r_s_lists (by kernel_rfl) _ _ rfl g (0 + 42) rfl (.slice va (s.tm + 1) vc) _ rfl ⟨_, _, _, rfl⟩ hDb3.at_.2.2.2.2.2.2.2.2.2.2.1 (hDb3.frz 42) ?_
        have t4 : Turn (fun i => i = g) w3 (w3.setCell ⟨g, 0 + 42, none⟩ (.slice va (s.tm + 1) vc)) := Turn.setCell _ _ _ rfl
        have HFIN : Hid (Db (w3.setCell ⟨g, 0 + 42, none⟩ (.slice va (s.tm + 1) vc)) g ({ X with tc := nilS, ls := .slice va (s.tm + 1) vc, N := X.N + 1 }.dvf { s with tch := [], tm := s.tm + 1 }) ∧ Dr (w3.setCell ⟨g, 0 + 42, none⟩ (.slice va (s.tm + 1) vc)) F { s with tch := [], tm := s.tm + 1 } { X with tc := nilS, ls := .slice va (s.tm + 1) vc, N := X.N + 1 } ∧ Turn F w (w3.setCell ⟨g, 0 + 42, none⟩ (.slice va (s.tm + 1) vc))) :=
          ⟨hDb3.setLs _, hDr3.self hDb3 t4, t3.trans t4 (fun i e => Or.inl (by show F i; rw [e]; exact HF.out.2))⟩
        refine hK.out _ _ ((t4.block _ (Array.getElem?_eq_some_iff.1 hS).1 (fun e => hgn e.symm)).trans hS) (fun hS => ?_)
        clear hDb3 hDr3 t3 t4 hDr hDb
        clear hK K
        try simp only [Act.put]
        refine wpAnyH_done (by kernel_rfl) ?_ _
        clear hS
        go_wp2_with fail
        refine bodyPost_end (results_none rfl _ _ _) rfl ⟨_, rfl, { X with tc := nilS, ls := .slice va (s.tm + 1) vc, N := X.N + 1 }, ?_, ?_, Nat.le_refl _, rfl, rfl, HFIN.out.2.2⟩
        · have := HFIN.out.1
          unfold setl
          rw [HC.out]
          exact this
        · have := HFIN.out.2.1
          unfold setl
          rw [HC.out]
          exact this
      · refine r_one_lists (by kernel_rfl) _ rfl (.slice oa on oc) [.slice oa on oc] rfl rfl rfl ?_
        refine hK.out _ _ ((heap_alloc_old _ _ (Array.getElem?_eq_some_iff.1 hS).1).trans hS) (fun hS => ?_)
        clear hK K
        try simp only [Act.put, List.setIfInBounds_toArray, List.set_cons_zero, List.set_cons_succ]
        refine wpAnyH_ready (rs := [4]) (by kernel_rfl) (by simp) ?_
        refine AllReadyH.cons (by simp only [List.getElem?_toArray, List.getElem?_cons_zero, List.getElem?_cons_succ]; rfl) (fun K hK => ?_) AllReadyH.nil
        refine r_yield (y_l_lists (by kernel_rfl) _ rfl _ _ rfl (.slice la ln lc) (fun u hs => by rw [hs]; exact c42 _)) ?_
        refine hK.out _ _ hS (fun hS => ?_)
        clear hK K
        try simp only [Act.put, List.setIfInBounds_toArray, List.set_cons_zero, List.set_cons_succ]
        refine wpAnyH_ready (rs := [7]) (by kernel_rfl) (by simp) ?_
        refine AllReadyH.cons (by simp only [List.getElem?_toArray, List.getElem?_cons_zero, List.getElem?_cons_succ]; rfl) (fun K hK => ?_) AllReadyH.nil
        have hDr := HD1.out.2.1.keep (((Below.refl (w1.setCell ⟨g, 43, none⟩ nilS).heap.size (w1.setCell ⟨g, 43, none⟩ nilS)).drew).alloc (Nat.le_refl _) (.cells [Value.slice oa on oc].toArray 29))
        have hDb := HD1.out.1.keep (((Below.refl (w1.setCell ⟨g, 43, none⟩ nilS).heap.size (w1.setCell ⟨g, 43, none⟩ nilS)).drew).alloc (Nat.le_refl _) (.cells [Value.slice oa on oc].toArray 29))
        obtain ⟨xs, hlo⟩ := hDr.lo
        refine r_app_lists (by kernel_rfl) _ _ rfl (.slice la ln lc) s.tm xs rfl (by rw [← HT.out.2.1]; exact hlo) (w1.setCell ⟨g, 43, none⟩ nilS).drew.heap.size [.slice oa on oc] rfl rfl (rng_new _ _ _) (fun u hu => by rw [List.mem_singleton.1 hu]; rfl) (by have := hDr.bd.1; simp only at this; omega) ?_
        intro v' w3 own3 gr3 at3
        have gr3' : ((w1.setCell ⟨g, 43, none⟩ nilS).drew.alloc (.cells [Value.slice oa on oc].toArray 29)).grownBy w3 X.ls.ownBlock := by rw [HT.out.2.1]; exact gr3
        have at3' : v'.ownBlock = X.ls.ownBlock ∨ v'.ownBlock = some ((w1.setCell ⟨g, 43, none⟩ nilS).drew.alloc (.cells [Value.slice oa on oc].toArray 29)).heap.size := by rw [HT.out.2.1]; exact at3
        have hS3 : w3.heap[w.heap.size]? = some (.cells #[.pointer (some ⟨g, 0, none⟩)] 22 (0, 0)) := (gr3'.block _ (Array.getElem?_eq_some_iff.1 hS).1 (fun e => own_ne_cells hlo hS (by decide) e.symm)).trans hS
        have hDb3 : Db w3 g ({ X with tc := nilS }.dvf { s with tch := [] }) := hDb.turn (Turn.of_grown (F := fun i => X.ls.ownBlock = some i) gr3' (fun _ e => e)) (fun e => own_ne_cells hlo hDb.blk (by decide) e)
        have hDr3 := hDr.change (fun i hi => HF.out.1 i (Nat.le_trans (Nat.le_trans HD1.out.2.2.2.2.size (Turn.alloc (F := fun _ => False) (w1.setCell ⟨g, 43, none⟩ nilS).drew (.cells [Value.slice oa on oc].toArray 29)).size) hi)) own3 gr3' at3'
        have t3 : Turn F w w3 := ((HD1.out.2.2.2.2.trans (Turn.drew _) (fun _ q => Or.inl q)).trans (Turn.alloc _ _) (fun _ q => Or.inl q)).trans (Turn.of_grown (F := fun i => X.ls.ownBlock = some i) gr3' (fun _ e => e)) (fun i e => Or.inl (hDr.lof i e))
        obtain ⟨va, vc, ev⟩ := own_slice own3
        subst ev
        clear own3 gr3 at3 gr3' at3' hlo
        refine hK.out _ _ hS3 (fun hS => ?_)
        clear hK K
        try simp only [Act.put, List.setIfInBounds_toArray, List.set_cons_zero, List.set_cons_succ]
        refine wpAnyH_take (i := 8) (v := (.pointer (some ⟨g, 0, none⟩))) (by simp only [List.getElem?_toArray, List.getElem?_cons_zero, List.getElem?_cons_succ]; rfl) (by kernel_rfl) (by kernel_rfl) (by kernel_rfl) (by exact fun _ _ _ h => h) (y_nil (by kernel_rfl) _ rfl _ rfl) hS ?_
        try simp only [Act.put, List.setIfInBounds_toArray, List.set_cons_zero, List.set_cons_succ]
        refine wpAnyH_take (i := 9) (v := (.pointer (some ⟨g, 0 + 42, none⟩))) (by simp only [List.getElem?_toArray, List.getElem?_cons_zero, List.getElem?_cons_succ]; rfl) (by kernel_rfl) (by kernel_rfl) (by kernel_rfl) (by exact fun _ _ _ h => h) (y_f_Dev10 (by kernel_rfl) _ rfl _ _ rfl) hS ?_
        try simp only [Act.put, List.setIfInBounds_toArray, List.set_cons_zero, List.set_cons_succ]
        refine wpAnyH_ready (rs := [10]) (by kernel_rfl) (by simp) ?_
        refine AllReadyH.cons (by simp only [List.getElem?_toArray, List.getElem?_cons_zero, List.getElem?_cons_succ]; rfl) (fun K hK => ?_) AllReadyH.nil
        refine r_s_lists (by kernel_rfl) _ _ rfl g (0 + 42) rfl (.slice va (s.tm + 1) vc) _ rfl ⟨_, _, _, rfl⟩ hDb3.at_.2.2.2.2.2.2.2.2.2.2.1 (hDb3.frz 42) ?_
        have t4 : Turn (fun i => i = g) w3 (w3.setCell ⟨g, 0 + 42, none⟩ (.slice va (s.tm + 1) vc)) := Turn.setCell _ _ _ rfl
        have HFIN : Hid (Db (w3.setCell ⟨g, 0 + 42, none⟩ (.slice va (s.tm + 1) vc)) g ({ X with tc := nilS, ls := .slice va (s.tm + 1) vc, N := X.N + 1 }.dvf { s with tch := [], tm := s.tm + 1 }) ∧ Dr (w3.setCell ⟨g, 0 + 42, none⟩ (.slice va (s.tm + 1) vc)) F { s with tch := [], tm := s.tm + 1 } { X with tc := nilS, ls := .slice va (s.tm + 1) vc, N := X.N + 1 } ∧ Turn F w (w3.setCell ⟨g, 0 + 42, none⟩ (.slice va (s.tm + 1) vc))) :=
          ⟨hDb3.setLs _, hDr3.self hDb3 t4, t3.trans t4 (fun i e => Or.inl (by show F i; rw [e]; exact HF.out.2))⟩
        refine hK.out _ _ ((t4.block _ (Array.getElem?_eq_some_iff.1 hS).1 (fun e => hgn e.symm)).trans hS) (fun hS => ?_)
        clear hDb3 hDr3 t3 t4 hDr hDb
        clear hK K
        try simp only [Act.put]
        refine wpAnyH_done (by kernel_rfl) ?_ _
        clear hS
        go_wp2_with fail
        refine bodyPost_end (results_none rfl _ _ _) rfl ⟨_, rfl, { X with tc := nilS, ls := .slice va (s.tm + 1) vc, N := X.N + 1 }, ?_, ?_, Nat.le_refl _, rfl, rfl, HFIN.out.2.2⟩
        · have := HFIN.out.1
          unfold setl
          rw [HC.out]
          exact this
        · have := HFIN.out.2.1
          unfold setl
          rw [HC.out]
          exact this
end Go.Proofs.YtpmdjopojcgpeaaGreatDoor
