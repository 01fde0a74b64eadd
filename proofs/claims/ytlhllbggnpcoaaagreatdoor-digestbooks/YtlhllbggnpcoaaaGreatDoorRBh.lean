import Derived.Test.YtlhllbggnpcoaaaGreatDoorYl4
/-
  The reference's book: Hash.
-/
namespace Go.Proofs.YtlhllbggnpcoaaaGreatDoor
open Go.RowKit Go.Sort Go.Maps

set_option maxRecDepth 100000 in
set_option maxHeartbeats 3200000 in
theorem rb_hash (w : World) (B qb : Nat) (st : Bst) (F : Nat → Prop) (h : RB w B qb st F) (hG : Gr w) (hL : st.LH.length ≤ 274877906944) (a : Option Addr) (b o c : Nat) (t : List Nat) (ht : Vw w a b o t) (hnil : a = none → c = 0) (hs : t.length ≤ 140737488351232) :
    Calls Tryz.prog 39 #[.pointer (some ⟨qb, 0, none⟩), .slice a t.length c] w fun e w' => e = .returned (.agg (hA (kh st.bits t))) ∧ RTurned w w' B qb { st with LH := ins t st.LH } F := by
  obtain ⟨sa, sB, sc, ah, ch, ac, cc, af, cf, Qh, Qc, Qf, hk⟩ := h
  have z64 := (zero_of_info infoH).1
  have b1' : Below w.heap.size w (w.alloc (.cells Z32 31)) := (Below.refl _ _).alloc (Nat.le_refl _) _
  obtain ⟨w1, hw1⟩ : ∃ w1, w1 = w.alloc (.cells Z32 31) := ⟨_, rfl⟩
  have hrs : w1.heap[w.heap.size]? = some (.cells Z32 31 (0, 0)) := by rw [hw1]; exact heap_alloc_new _ _
  have lrs : w.heap.size < w1.heap.size := by rw [hw1]; simp
  rw [← hw1] at b1'
  have cb : w1.cell? ⟨qb, 0, none⟩ = some (.int .i64 (st.bits : Nat)) := (hk.below b1').row.cell (i := 0) (by decide)
  have cs := rhashN_any w1 st.bits hk.b1.2 a b o c t (ht.below b1') hnil (by omega) (hG.below b1')
  have HB : Hid (Below w.heap.size w w1 ∧ w1.heap[w.heap.size]? = some (.cells Z32 31 (0, 0)) ∧ w.heap.size < w1.heap.size) := ⟨b1', hrs, lrs⟩
  have HR : Hid (RBk w B qb st F sa sB sc ah ch ac cc af cf Qh Qc Qf) := hk
  have HL : Hid (st.LH.length ≤ 274877906944) := hL
  have HT : Hid (Vw w a b o t ∧ (a = none → c = 0) ∧ t.length ≤ 140737488351232) := ⟨ht, hnil, hs⟩
  have hkk := kh_isH st.bits t
  obtain ⟨kk, ekk⟩ : ∃ kk, kk = kh st.bits t := ⟨_, rfl⟩
  have HKE : Hid (kk = kh st.bits t) := ekk
  rw [← ekk] at cs hkk ⊢
  have HKH : Hid (IsH kk) := hkk
  have hi3 := hA_info hkk
  clear ekk hk hG hL ht hnil hs b1' hrs lrs
  go_enter Tryz.func39, Tryz.ntmps39
  go_upto_region 1 with fail
  rw [← hw1]
  clear hw1
  go_wp2_with fail
  refine cs.mono ?_
  rintro _ w2 ⟨rfl, hb2⟩
  have bx : ((w2.alloc (.cells Z32 31)).setRow w2.heap.size (hA kk)).heap[w2.heap.size]? = some (.cells (hA kk) 31 (0, 0)) := setRow_heap _ _ _ _ _ _ (heap_alloc_new _ _)
  have bb : Below w2.heap.size w2 ((w2.alloc (.cells Z32 31)).setRow w2.heap.size (hA kk)) := below_setRow ((Below.refl _ _).alloc (Nat.le_refl _) _) (Nat.le_refl _) _
  obtain ⟨w3, hw3⟩ : ∃ w3, w3 = (w2.alloc (.cells Z32 31)).setRow w2.heap.size (hA kk) := ⟨_, rfl⟩
  obtain ⟨g, hg⟩ : ∃ g, g = w2.heap.size := ⟨_, rfl⟩
  rw [← hw3, ← hg] at bx
  rw [← hw3] at bb
  have b13 : Below w1.heap.size w1 w3 := hb2.trans (bb.mono hb2.size)
  have H3 : Hid (Below w1.heap.size w1 w3 ∧ w1.heap.size ≤ g) := ⟨b13, by rw [hg]; exact hb2.size⟩
  have HW3 : Hid (Below w.heap.size w w3) := HB.out.1.trans (b13.mono HB.out.1.size)
  have HK3 : Hid (RBk w3 B qb st F sa sB sc ah ch ac cc af cf Qh Qc Qf) := HR.out.below HW3.out
  have HBX : Hid (∀ v, Below w3.heap.size w3 v → v.rangeAt g 0 (bv kk)) := fun v hv => range_box ((hv.block g (Array.getElem?_eq_some_iff.1 bx).1).trans bx)
  have HGX : Hid (w3.heap[g]? = some (.cells (hA kk) 31 (0, 0))) := bx
  have HQN : Hid (qb ≠ g) := fun z => by have := HR.out.row.lt; have := H3.out.2; have := HB.out.2.2; omega
  clear bx bb hb2 b13 cs
  go_upto_region 2 with (refine wpList_store_row (by rfl) 31 (.tmp 5) (.tmp 11) (by rfl) w2.heap.size (hA kk) (by rfl) (by rfl) 31 Z32 (heap_alloc_new _ _) (hA_info hkk) (hA_Z32 hkk) (hA_one hkk) ?_)
  rw [← hw3, ← hg]
  clear hw3 hg cb
  have bd : Below w3.heap.size w3 w3.drew := (Turn.drew (F := fun _ => False) w3).below (fun _ f => f.elim) (Nat.le_refl _)
  have hk3 := HK3.out.below bd
  have s0 : w3.drew.rangeAt g 0 (bv kk) := HBX.out _ bd
  have ce : w3.drew.cell? ⟨qb, 3, none⟩ = some (.slice ah Qh.length ch) := hk3.row.cell (i := 3) (by decide)
  have nt := rnote_any w3.drew F ah ch Qh hk3.nh (by rw [hk3.eh]; exact hk3.rh) (by have e := congrArg List.length hk3.eh; rw [List.length_map] at e; rw [e]; exact HL.out) (fun i q => (hk3.lim i q).2) a b o c t ((HT.out.1.below HW3.out).below bd) HT.out.2.1 HT.out.2.2 kk HKH.out
  have HBD : Hid (Below w3.heap.size w3 w3.drew ∧ RBk w3.drew B qb st F sa sB sc ah ch ac cc af cf Qh Qc Qf) := ⟨bd, hk3⟩
  refine wp_region_held_drew (S := fun v => v.rangeAt g 0 (bv kk)) (by kernel_rfl) s0 ?_
  intro hS
  clear s0 bd hk3
  change wpAnyH _ _ _ _ _ 11 _ _ _
  generalize w3.drew = wd at hS ce nt HBD ⊢
  refine wpAnyH_take (i := 0) (v := (.pointer (some ⟨qb, 0, none⟩))) (by simp only [List.getElem?_toArray, List.getElem?_cons_zero]; rfl) (by kernel_rfl) (by kernel_rfl) (by kernel_rfl) (by exact fun _ _ _ h => h) (y_move (by kernel_rfl) _ rfl _ rfl) hS ?_
  try simp only [Act.put, List.setIfInBounds_toArray, List.set_cons_zero, List.set_cons_succ]
  refine wpAnyH_take (i := 1) (v := (.pointer (some ⟨qb, 0, none⟩))) (by simp only [List.getElem?_toArray, List.getElem?_cons_zero, List.getElem?_cons_succ]; rfl) (by kernel_rfl) (by kernel_rfl) (by kernel_rfl) (by exact fun _ _ _ h => h) (y_move (by kernel_rfl) _ rfl _ rfl) hS ?_
  try simp only [Act.put, List.setIfInBounds_toArray, List.set_cons_zero, List.set_cons_succ]
  refine wpAnyH_take (i := 2) (v := (.pointer (some ⟨qb, 0, none⟩))) (by simp only [List.getElem?_toArray, List.getElem?_cons_zero, List.getElem?_cons_succ]; rfl) (by kernel_rfl) (by kernel_rfl) (by kernel_rfl) (by exact fun _ _ _ h => h) (y_nil (by kernel_rfl) _ rfl _ rfl) hS ?_
  try simp only [Act.put, List.setIfInBounds_toArray, List.set_cons_zero, List.set_cons_succ]
  refine wpAnyH_take (i := 3) (v := (.pointer (some ⟨qb, 3, none⟩))) (by simp only [List.getElem?_toArray, List.getElem?_cons_zero, List.getElem?_cons_succ]; rfl) (by kernel_rfl) (by kernel_rfl) (by kernel_rfl) (by exact fun _ _ _ h => h) (y_fieldQ (by kernel_rfl) _ 3 rfl qb rfl (by decide)) hS ?_
  try simp only [Act.put, List.setIfInBounds_toArray, List.set_cons_zero, List.set_cons_succ]
  refine wpAnyH_take (i := 5) (v := (.slice a t.length c)) (by simp only [List.getElem?_toArray, List.getElem?_cons_zero, List.getElem?_cons_succ]; rfl) (by kernel_rfl) (by kernel_rfl) (by kernel_rfl) (by exact fun _ _ _ h => h) (y_move (by kernel_rfl) _ rfl _ rfl) hS ?_
  try simp only [Act.put, List.setIfInBounds_toArray, List.set_cons_zero, List.set_cons_succ]
  refine wpAnyH_take (i := 6) (v := (.agg (hA kk))) (by simp only [List.getElem?_toArray, List.getElem?_cons_zero, List.getElem?_cons_succ]; rfl) (by kernel_rfl) (by kernel_rfl) (by kernel_rfl) (by exact fun _ _ _ h => h) (yieldsIf_load_mid (by kernel_rfl) _ _ rfl g 0 rfl _ _ (fun v hs => hs) Tryz.underlying31 rfl (hL_len HKH.out)) hS ?_
  try simp only [Act.put, List.setIfInBounds_toArray, List.set_cons_zero, List.set_cons_succ]
  refine wpAnyH_ready (rs := [4]) (by kernel_rfl) (by simp) ?_
  refine AllReadyH.cons (by simp only [List.getElem?_toArray, List.getElem?_cons_zero, List.getElem?_cons_succ]; rfl) (fun K hK => ?_) AllReadyH.nil
  refine r_loadN (by kernel_rfl) _ rfl qb 3 rfl _ ce ?_
  refine hK.out _ _ hS (fun hS => ?_)
  clear hK K
  try simp only [Act.put, List.setIfInBounds_toArray, List.set_cons_zero, List.set_cons_succ]
  refine wpAnyH_ready (rs := [7]) (by kernel_rfl) (by simp) ?_
  refine AllReadyH.cons (by simp only [List.getElem?_toArray, List.getElem?_cons_zero, List.getElem?_cons_succ]; rfl) (fun K hK => ?_) AllReadyH.nil
  refine r_call3 65 _ _ _ #[77, 26, 31] rfl (by kernel_rfl) (.slice ah Qh.length ch) (.slice a t.length c) (.agg (hA kk)) rfl rfl rfl (enters_of Tryz.func65 (by kernel_rfl) rfl) (nt.mono ?_)
  rintro _ w5 ⟨av', cv', Q', rfl, nl5, em5, ek5, b5⟩
  refine ⟨_, rfl, ?_⟩
  have H5 : Hid (NL w5 (fun i => F i ∨ (wd.heap.size ≤ i ∧ i < w5.heap.size)) (.slice av' Q'.length cv') Q' ∧ Q'.map FG.s = ins t st.LH ∧ (∀ q ∈ Q', q ∈ Qh ∨ (q.s = t ∧ q.k = kk)) ∧ Below wd.heap.size wd w5 ∧ RBk w5 B qb st F sa sB sc ah ch ac cc af cf Qh Qc Qf) := ⟨nl5, by rw [HBD.out.2.eh] at em5; exact em5, ek5, b5, HBD.out.2.below b5⟩
  have hS5 : w5.rangeAt g 0 (bv kk) := HBX.out _ (HBD.out.1.trans (b5.mono HBD.out.1.size))
  have ce5 : w5.cell? ⟨qb, 3, none⟩ = some (.slice ah Qh.length ch) := H5.out.2.2.2.2.row.cell (i := 3) (by decide)
  have fz5 : w5.frozen? ⟨qb, 3, none⟩ = false := H5.out.2.2.2.2.row.frozen 3
  refine hK.out _ _ hS5 (fun hS => ?_)
  clear hK K nl5 em5 ek5 b5 nt ce hS5
  try simp only [Act.put, List.setIfInBounds_toArray, List.set_cons_zero, List.set_cons_succ]
  refine wpAnyH_take (i := 8) (v := (.pointer (some ⟨qb, 0, none⟩))) (by simp only [List.getElem?_toArray, List.getElem?_cons_zero, List.getElem?_cons_succ]; rfl) (by kernel_rfl) (by kernel_rfl) (by kernel_rfl) (by exact fun _ _ _ h => h) (y_nil (by kernel_rfl) _ rfl _ rfl) hS ?_
  try simp only [Act.put, List.setIfInBounds_toArray, List.set_cons_zero, List.set_cons_succ]
  refine wpAnyH_take (i := 9) (v := (.pointer (some ⟨qb, 3, none⟩))) (by simp only [List.getElem?_toArray, List.getElem?_cons_zero, List.getElem?_cons_succ]; rfl) (by kernel_rfl) (by kernel_rfl) (by kernel_rfl) (by exact fun _ _ _ h => h) (y_fieldQ (by kernel_rfl) _ 3 rfl qb rfl (by decide)) hS ?_
  try simp only [Act.put, List.setIfInBounds_toArray, List.set_cons_zero, List.set_cons_succ]
  refine wpAnyH_ready (rs := [10]) (by kernel_rfl) (by simp) ?_
  refine AllReadyH.cons (by simp only [List.getElem?_toArray, List.getElem?_cons_zero, List.getElem?_cons_succ]; rfl) (fun K hK => ?_) AllReadyH.nil
  refine r_storeN (by kernel_rfl) _ _ rfl qb 3 rfl av' Q'.length cv' rfl _ ce5 fz5 ?_
  have hS6 : (w5.setCell ⟨qb, 3, none⟩ (.slice av' Q'.length cv')).rangeAt g 0 (bv kk) := fun j u hu => (cell_set_other _ (by intro z; exact HQN.out z.symm)).trans (hS j u hu)
  refine hK.out _ _ hS6 (fun hS => ?_)
  clear hK K hS6 ce5 fz5
  try simp only [Act.put]
  refine wpAnyH_done (by kernel_rfl) ?_ _
  have hne : w.heap.size ≠ qb := fun z => by have := HR.out.row.lt; omega
  have og6 : (w5.setCell ⟨qb, 3, none⟩ (.slice av' Q'.length cv')).heap[w.heap.size]? = some (.cells Z32 31 (0, 0)) := by
    have t6 : Turn (fun i => i = qb) w5 (w5.setCell ⟨qb, 3, none⟩ (.slice av' Q'.length cv')) := Turn.setCell w5 ⟨qb, 3, none⟩ _ rfl
    have bw : Below w1.heap.size w1 w5 := H3.out.1.trans ((HBD.out.1.trans (H5.out.2.2.2.1.mono HBD.out.1.size)).mono H3.out.1.size)
    exact (t6.block w.heap.size (Nat.lt_of_lt_of_le HB.out.2.2 bw.size) hne).trans ((bw.block _ HB.out.2.2).trans HB.out.2.1)
  have HFF : Hid (RTurned w ((w5.setCell ⟨qb, 3, none⟩ (.slice av' Q'.length cv')).setRow w.heap.size (hA kk)) B qb { st with LH := ins t st.LH } F) := by
    have b35 : Below w3.heap.size w3 w5 := HBD.out.1.trans (H5.out.2.2.2.1.mono HBD.out.1.size)
    have b05 : Below w.heap.size w w5 := HW3.out.trans (b35.mono HW3.out.size)
    have wd0 : w.heap.size < wd.heap.size := Nat.lt_of_lt_of_le HB.out.2.2 (Nat.le_trans H3.out.1.size HBD.out.1.size)
    have ql := HR.out.row.lt
    have nF : ∀ i, (F i ∨ (wd.heap.size ≤ i ∧ i < w5.heap.size)) → i ≠ w.heap.size := fun i q z => by
      rcases q with q | q
      · have := (HR.out.lim i q).2; omega
      · omega
    have rb := H5.out.2.2.2.2.noteH (F' := fun i => F i ∨ (wd.heap.size ≤ i ∧ i < w5.heap.size)) (fun i q => Or.inl q) (fun i q => by
      rcases q with q | q
      · exact H5.out.2.2.2.2.lim i q
      · have := HR.out.base; exact ⟨by omega, q.2⟩) (fun q => by
      rcases q with q | q
      · exact HR.out.out q
      · omega) H5.out.1 H5.out.2.1 (fun q hq => by
      rcases H5.out.2.2.1 q hq with z | z
      · exact Or.inl z
      · exact Or.inr ⟨z.1, z.2.trans HKE.out⟩)
    have t7 : Turn (fun i => i = w.heap.size) (w5.setCell ⟨qb, 3, none⟩ (.slice av' Q'.length cv')) ((w5.setCell ⟨qb, 3, none⟩ (.slice av' Q'.length cv')).setRow w.heap.size (hA kk)) := Turn.setRow _ _ _ rfl
    refine ⟨⟨_, fun i q => Or.inl q, fun i q => ?_, rb.turn t7 (fun z => hne z.symm) nF⟩, ((Turn.of_below b05 (F := fun i => i = qb)).trans (Turn.setCell w5 ⟨qb, 3, none⟩ _ (F := fun i => i = qb) rfl) (fun _ q => Or.inl q)).trans t7 (fun i q => Or.inr (by omega))⟩
    rcases q with q | q
    · exact Or.inl q
    · exact Or.inr ⟨by omega, by simpa using q.2⟩
  have bx6 : (w5.setCell ⟨qb, 3, none⟩ (.slice av' Q'.length cv')).heap[g]? = some (.cells (hA kk) 31 (0, 0)) := by
    have t6 : Turn (fun i => i = qb) w5 (w5.setCell ⟨qb, 3, none⟩ (.slice av' Q'.length cv')) := Turn.setCell w5 ⟨qb, 3, none⟩ _ rfl
    have b35 : Below w3.heap.size w3 w5 := HBD.out.1.trans (H5.out.2.2.2.1.mono HBD.out.1.size)
    have lg : g < w3.heap.size := (Array.getElem?_eq_some_iff.1 HGX.out).1
    exact (t6.block g (Nat.lt_of_lt_of_le lg b35.size) (fun z => HQN.out z.symm)).trans ((b35.block g lg).trans HGX.out)
  have hcl : ∀ j, j < (hA kk).size → (w5.setCell ⟨qb, 3, none⟩ (.slice av' Q'.length cv')).cell? ⟨g, j, none⟩ = (hA kk)[j]? := fun j _ => cell_of_row _ _ _ _ 31 _ bx6
  clear hS bx6 HBD HGX HBX
  revert og6 hcl HFF
  generalize w5.setCell ⟨qb, 3, none⟩ (.slice av' Q'.length cv') = w6
  intro og6 HFF hcl
  go_wp2_with (first
    | refine wpList_load_cells_g (by rfl) 31 (.tmp 5) (by rfl) g (by rfl) (hA kk) _ hcl Tryz.underlying31 (by rfl) hi3 ?_
    | refine wpList_store_row (by rfl) 31 (.tmp 4) (.tmp 22) (by rfl) w.heap.size (hA kk) (by rfl) (by rfl) 31 Z32 og6 (hA_info hkk) (hA_Z32 hkk) (hA_one hkk) ?_)
  refine bodyPost_ret (v := .agg (hA kk)) ?_ rfl ?_
  · exact results_cell_row rfl _ _ w.heap.size 31 (hA kk) (0, 0) _ rfl (setRow_heap _ _ _ _ _ _ og6) Tryz.underlying31 rfl (hA_info hkk)
  · exact ⟨rfl, HFF.out⟩
end Go.Proofs.YtlhllbggnpcoaaaGreatDoor
