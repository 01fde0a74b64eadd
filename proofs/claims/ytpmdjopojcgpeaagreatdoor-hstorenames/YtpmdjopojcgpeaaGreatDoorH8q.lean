import Derived.Test.YtpmdjopojcgpeaaGreatDoorH7q
/-
  (*Store).Put of a new blob; what Put and Mend refuse. (Written by gen_h8.py.)
-/
namespace Go.Proofs.YtpmdjopojcgpeaaGreatDoor
open Go.RowKit Go.Maps Go.ChangeMaps

theorem Cs.delBad {w w' : World} {F : Nat → Prop} {sb g bk : Nat} {most : Int} {ord : Value} {mb mq N : Nat} {D : DataW Value} {V : List Nat → Value} {E : Nat → Prop} {ks : List (List Nat)} {bl : List Nat → Option (List Nat)} {cnt : Nat} (h : Cs w F sb g bk most ord mb mq N D V E ks bl cnt) (t : Turn (fun i => i = mq) w w') (hb : EmpM w' mq) : Cs w' F sb g bk most ord mb mq N D V E ks bl cnt :=
  { h with
    st := h.st.turn t (fun e => ne_map_blk h.st.blk h.bad.own e.symm)
    bl := h.bl.turn t h.ne (Off.map h.bad.own _)
    od := own_off h.od t (Off.map h.bad.own _)
    bad := hb }
theorem Sy.inner {w w' : World} {sb g bk bits : Nat} {most : Int} {mb mq N ND NB : Nat} {ks : List (List Nat)} {bl : List Nat → Option (List Nat)} {cnt : Nat} {sd : Dst} {lg : Value} {F FD FB : Nat → Prop} {ord : Value} {D : DataW Value} {V : List Nat → Value} {E : Nat → Prop} {G : Nat → Prop} (h : Sy w sb g bk bits most mb mq N ND NB ks bl cnt sd lg F FD FB ord D V E) (t : Turn G w w') (hG : ∀ i, G i → F i) (hc : Cs w' F sb g bk most ord mb mq N D V E ks bl cnt) : Sy w' sb g bk bits most mb mq N ND NB ks bl cnt sd lg F FD FB ord D V E :=
  ⟨hc, h.dv.frame t (fun i q z => h.d1 i (hG i z) q), h.bk.turn t (fun i q z => h.d2 i (hG i z) q), ground_turn h.gr t (fun i q => (h.lf i (hG i q)).1), h.d1, h.d2, h.d3, fun i q => ⟨(h.lf i q).1, Nat.lt_of_lt_of_le (h.lf i q).2 t.size⟩, fun i q => ⟨(h.ld i q).1, Nat.lt_of_lt_of_le (h.ld i q).2 t.size⟩⟩
theorem zvH (w : World) : (zeroValue 38).run Tryz.prog w = .ok (.agg (bv z32).toArray) w := zero_of_info (n := 32) (by kernel_rfl) w
theorem bv_one (k : List Nat) : (bv k).toArray.all (·.oneCell') = true := all_oneCell_toArray (fun x hx => by
  obtain ⟨y, _, rfl⟩ := List.mem_map.1 hx
  rfl)
theorem iHl {k : List Nat} (h : k.length = 32) : (Tryz.prog.info? 38).map (·.size) = some (bv k).length := by rw [bv_len, h]; exact i33
set_option maxRecDepth 100000 in
set_option maxHeartbeats 12800000 in
theorem put_new {w : World} {sb g bk bits : Nat} {most : Int} {mb mq N ND NB : Nat} {ks : List (List Nat)} {bl : List Nat → Option (List Nat)} {cnt : Nat} {sd : Dst} {lg : Value} {F FD FB : Nat → Prop} {ord : Value} {D : DataW Value} {V : List Nat → Value} {E : Nat → Prop} (h : Sy w sb g bk bits most mb mq N ND NB ks bl cnt sd lg F FD FB ord D V E) (hN : N ≤ 1000) (hND : ND ≤ 1073741000) (hNB : NB ≤ 1000) {sa : Option Addr} {m sc : Nat} {x : List Nat} (hm : 1 ≤ m ∧ m ≤ 1024) (hv : Vo (All F FD FB) w (.slice sa m sc) x) (habs : bl (Dg.kh bits x) = none) (hdabs : sd.bl (Dg.kh bits x) = none) (hr : refu (asked sd 81) 2 (Dg.kh bits x) m = 0) (hroom : (ks.length : Int) + 1 ≤ most) :
    Calls Tryz.prog 14 #[.pointer (some ⟨sb, 0, none⟩), .slice sa m sc] w fun e w' => e = .returned (.tuple #[.agg (bv (Dg.kh bits x)).toArray, .int .i64 0]) ∧ Turn (All F FD FB) w w' ∧ ∃ F' FD' FB' ord' D' V' E', Sy w' sb g bk bits most mb mq (N + 1) (ND + 12) (NB + 1) (ks ++ [Dg.kh bits x]) (fun k' => if k' = Dg.kh bits x then some x else bl k') (cnt + 1) (given (asked sd 81) (Dg.kh bits x) x) lg F' FD' FB' ord' D' V' E' ∧ (∀ i, All F' FD' FB' i → All F FD FB i ∨ w.heap.size ≤ i) := by
  have hxm : m = x.length := by
    obtain ⟨a, b, off, c, e, _⟩ := hv
    injection e
  have hk : IsH (Dg.kh bits x) := isH_kh bits x
  obtain ⟨W, eW⟩ : ∃ W, W = w.alloc (.cells (bv z32).toArray 38) := ⟨_, rfl⟩
  have b0 : Below w.heap.size w W := by rw [eW]; exact (Below.refl _ _).alloc (Nat.le_refl _) _
  have hab : W.heap[w.heap.size]? = some (.cells (bv z32).toArray 38 (0, 0)) := by rw [eW]; exact heap_alloc_new _ _
  have hW := h.keep b0
  obtain ⟨key, ekey⟩ : ∃ k, k = Dg.kh bits x := ⟨_, rfl⟩
  rw [← ekey] at hk habs hdabs hr ⊢
  have HB0 : Hid (isB m = true) := decide_eq_true hm
  have hml : m ≤ 140737488351232 := by omega
  have HH : Hid (Calls Tryz.prog 22 #[.pointer (some ⟨bk, 0, none⟩), .slice sa m sc] W fun e w' => e = .returned (.agg (bv key).toArray) ∧ Turn FB W w' ∧ ∃ F', Bk w' bk bits (NB + 1) F' ∧ (∀ i, F' i → FB i ∨ W.heap.size ≤ i)) := by
    rw [ekey]
    exact bk_hash hW.bk hW.gr hNB ((hv.keep b0).mono (fun i q _ => Or.inr (Or.inr q)))
  have HS : Hid (Sy W sb g bk bits most mb mq N ND NB ks bl cnt sd lg F FD FB ord D V E ∧ Below w.heap.size w W ∧ W.heap[w.heap.size]? = some (.cells (bv z32).toArray 38 (0, 0)) ∧ Vo (All F FD FB) W (.slice sa m sc) x ∧ W.heap.size = w.heap.size + 1) := ⟨hW, b0, hab, hv.keep b0, by rw [eW]; simp⟩
  have HK : Hid (IsH key ∧ N ≤ 1000 ∧ ND ≤ 1073741000 ∧ bl key = none ∧ sd.bl key = none ∧ refu (asked sd 81) 2 key m = 0 ∧ m ≤ 1024 ∧ m = x.length) := ⟨hk, hN, hND, habs, hdabs, hr, hm.2, hxm⟩
  have HGR : Hid (3 < w.heap.size) := h.gr.big
  have HL : Hid (∀ i, All F FD FB i → i < w.heap.size) := fun i q => by
    rcases q with q | q | q
    · exact (h.lf i q).2
    · exact (h.ld i q).2
    · exact (h.bk.lim i q).2
  have c1 : W.cell? ⟨sb, 1, none⟩ = some (.pointer (some ⟨bk, 0, none⟩)) := hW.cs.st.at_.2.1
  have hz := zvH
  have HI : Hid ((Tryz.prog.info? 38).map (·.size) = some (bv key).length ∧ (bv key).length = (bv z32).length ∧ (bv key).toArray.all (·.oneCell') = true) := ⟨iHl hk.1, by rw [bv_len, bv_len, hk.1, z32_len], bv_one _⟩
  have hW1 : (w.alloc (.cells (bv z32).toArray 38)) = W := eW.symm
  rw [eW] at c1
  rw [eW] at HH
  obtain ⟨Z, eZ⟩ : ∃ Z, Z = bv z32 := ⟨_, rfl⟩
  rw [← eZ] at eW hz c1 HH HI
  have HZ : Hid (Z = bv z32 ∧ W = w.alloc (.cells Z.toArray 38)) := ⟨eZ, eW⟩
  clear h hW hv hk habs hdabs hr b0 hab ekey hN hND hNB hxm hW1 eZ eW
  go_enter Tryz.func14, Tryz.ntmps14
  go_wp2_with (first
    | (go_at_call 45; refine (isBlob_any _ sa m sc hml).mono ?_; rintro _ _ ⟨rfl, rfl⟩; rw [HB0.out])
    | (go_at_call 22; refine HH.out.mono ?_; rintro _ u1 ⟨rfl, ht1, hF1⟩; have H1 : Hid (Turn FB (w.alloc (.cells Z.toArray 38)) u1 ∧ ∃ F', Bk u1 bk bits (NB + 1) F' ∧ (∀ i, F' i → FB i ∨ (w.alloc (.cells Z.toArray 38)).heap.size ≤ i)) := ⟨ht1, hF1⟩; clear ht1 hF1 HH c1)
    | (refine wpList_stN (by kernel_rfl) 38 _ _ (by rfl) (bv key) Z HI.out.1 HI.out.2.1 HI.out.2.2 (by rfl) (by rfl) ?_; change Hid _))
  unfold Hid
  obtain ⟨FB1, hB1, hf1⟩ := H1.out.2
  rw [← HZ.out.2] at hf1
  have ht1 : Turn FB W u1 := by rw [HZ.out.2]; exact H1.out.1
  have hSy1 := HS.out.1.hashed ht1 hB1 hf1
  have b2 : Below u1.heap.size u1 (u1.alloc (.cells (bv key).toArray 38)) := (Below.refl _ _).alloc (Nat.le_refl _) _
  have hkb : (u1.alloc (.cells (bv key).toArray 38)).heap[u1.heap.size]? = some (.cells (bv key).toArray 38 (0, 0)) := heap_alloc_new _ _
  have hsW := HS.out.2.2.2.2
  have hs1 := ht1.size
  have tW : Turn (All F FD FB) w u1 := (Turn.of_below HS.out.2.1).trans ht1 (fun i q => Or.inl (Or.inr (Or.inr q)))
  have HV2 : Hid (Sy (u1.alloc (.cells (bv key).toArray 38)) sb g bk bits most mb mq N ND (NB + 1) ks bl cnt sd lg F FD FB1 ord D V E ∧ (u1.alloc (.cells (bv key).toArray 38)).heap[u1.heap.size]? = some (.cells (bv key).toArray 38 (0, 0)) ∧ (u1.alloc (.cells (bv key).toArray 38)).heap[w.heap.size]? = some (.cells (bv z32).toArray 38 (0, 0)) ∧ Vo (All F FD FB) (u1.alloc (.cells (bv key).toArray 38)) (.slice sa m sc) x ∧ Turn (All F FD FB) w (u1.alloc (.cells (bv key).toArray 38)) ∧ (∀ i, FB1 i → FB i ∨ w.heap.size < i) ∧ w.heap.size < u1.heap.size ∧ (∀ i, FB1 i → i < u1.heap.size)) := by
    refine ⟨hSy1.keep b2, hkb, (b2.block _ (by omega)).trans (ht1.at_new HS.out.2.2.1 (fun q => by have := HL.out _ (Or.inr (Or.inr q)); omega)), (HS.out.2.2.2.1.turn ht1 (fun i q _ => Or.inr (Or.inr q))).keep b2, tW.trans (Turn.of_below b2) (fun _ q => Or.inl q), fun i q => ?_, by omega, fun i q => (hB1.lim i q).2⟩
    rcases hf1 i q with q | q
    · exact Or.inl q
    · exact Or.inr (by omega)
  clear hB1 hf1 ht1 hSy1 b2 hkb hsW hs1 tW H1 HS
  generalize u1.alloc (.cells (bv key).toArray 38) = u2 at HV2 ⊢
  generalize u1.heap.size = kb at HV2 ⊢
  have HLAY : Hid (Calls Tryz.prog 46 #[.pointer (some ⟨sb, 0, none⟩), .agg (bv key).toArray, .slice sa m sc] u2 fun e w' => e = .returned (.int .i64 0) ∧ ∃ FD', Dev w' FD' g (given (asked sd 81) key x) (ND + 12) lg ∧ Turn FD u2 w' ∧ (∀ i, FD' i → FD i ∨ u2.heap.size ≤ i)) :=
    hlay_any HV2.out.1.cs HV2.out.1.dv HK.out.2.2.1 (fun i q z => HV2.out.1.d1 i z q) (fun i q => (HV2.out.1.ld i q).2) HK.out.1 HK.out.2.2.2.1 HK.out.2.2.2.2.1 HK.out.2.2.2.2.2.1 (HV2.out.2.2.2.1.mono (fun i q _ => Or.inr (Or.inl q))) HK.out.2.2.2.2.2.2.1
  have HR2 : Hid (u2.rangeAt kb 0 (bv key)) := blk_rng HV2.out.2.1
  go_wp2_with (first
    | refine wpList_load_mid_g (by kernel_rfl) 38 _ (by rfl) kb 0 (by rfl) (bv key) _ HR2.out Tryz.underlying38 rfl HI.out.1 ?_
    | (go_at_call 46; refine HLAY.out.mono ?_; rintro _ u3 ⟨rfl, hD3⟩; have H3 : Hid (∃ FD', Dev u3 FD' g (given (asked sd 81) key x) (ND + 12) lg ∧ Turn FD u2 u3 ∧ (∀ i, FD' i → FD i ∨ u2.heap.size ≤ i)) := hD3; clear hD3 HLAY))
  obtain ⟨FD3, hD3, ht3, hf3⟩ := H3.out
  have hkl := (Array.getElem?_eq_some_iff.1 HV2.out.2.1).1
  have hkg := HV2.out.2.2.2.2.2.2.1
  have HV3 : Hid (Sy u3 sb g bk bits most mb mq N (ND + 12) (NB + 1) ks bl cnt (given (asked sd 81) key x) lg F FD3 FB1 ord D V E ∧ u3.heap[kb]? = some (.cells (bv key).toArray 38 (0, 0)) ∧ u3.heap[w.heap.size]? = some (.cells (bv z32).toArray 38 (0, 0)) ∧ Vo (All F FD FB) u3 (.slice sa m sc) x ∧ Turn (All F FD FB) w u3 ∧ (∀ i, FB1 i → FB i ∨ w.heap.size < i) ∧ (∀ i, FD3 i → FD i ∨ w.heap.size < i) ∧ (∀ i, FB1 i → i ≠ kb) ∧ (∀ i, FD3 i → i ≠ kb)) := by
    refine ⟨HV2.out.1.device ht3 hD3 hf3, ht3.at_new HV2.out.2.1 (fun q => by have := HL.out _ (Or.inr (Or.inl q)); omega), ht3.at_new HV2.out.2.2.1 (fun q => by have := HL.out _ (Or.inr (Or.inl q)); omega), HV2.out.2.2.2.1.turn ht3 (fun i q _ => Or.inr (Or.inl q)), HV2.out.2.2.2.2.1.trans ht3 (fun i q => Or.inl (Or.inr (Or.inl q))), HV2.out.2.2.2.2.2.1, fun i q => ?_, fun i q e => by have := HV2.out.2.2.2.2.2.2.2 i q; omega, fun i q e => ?_⟩
    · rcases hf3 i q with q | q
      · exact Or.inl q
      · exact Or.inr (by omega)
    · rcases hf3 i q with q | q
      · have := HL.out _ (Or.inr (Or.inl q)); omega
      · omega
  clear hD3 ht3 hf3 hkl H3 HV2 HR2
  go_wp2_with fail
  refine wp_region_held_drew (S := fun u => u.heap[kb]? = some (.cells (bv key).toArray 38 (0, 0)) ∧ Stb u sb g bk most ord mb mq) (by kernel_rfl) (by exact ⟨HV3.out.2.1, ⟨HV3.out.1.cs.st.blk⟩⟩) ?_
  intro hS
  change wpAnyH _ _ _ _ _ 6 _ _ _
  refine wpAnyH_take (i := 0) (v := (.pointer (some ⟨sb, 0, none⟩))) (by simp only [List.getElem?_toArray, List.getElem?_cons_zero]; rfl) (by kernel_rfl) (by kernel_rfl) (by kernel_rfl) (by exact fun _ _ _ h => h) (y_move (by kernel_rfl) _ rfl _ rfl) hS ?_
  try simp only [Act.put, List.setIfInBounds_toArray, List.set_cons_zero, List.set_cons_succ]
  refine wpAnyH_take (i := 1) (v := (.pointer (some ⟨sb, 0, none⟩))) (by simp only [List.getElem?_toArray, List.getElem?_cons_zero, List.getElem?_cons_succ]; rfl) (by kernel_rfl) (by kernel_rfl) (by kernel_rfl) (by exact fun _ _ _ h => h) (y_nil (by kernel_rfl) _ rfl _ rfl) hS ?_
  try simp only [Act.put, List.setIfInBounds_toArray, List.set_cons_zero, List.set_cons_succ]
  refine wpAnyH_take (i := 2) (v := (.pointer (some ⟨sb, 0 + 5, none⟩))) (by simp only [List.getElem?_toArray, List.getElem?_cons_zero, List.getElem?_cons_succ]; rfl) (by kernel_rfl) (by kernel_rfl) (by kernel_rfl) (by exact fun _ _ _ h => h) (y_f_Sto3 (by kernel_rfl) _ rfl _ _ rfl) hS ?_
  try simp only [Act.put, List.setIfInBounds_toArray, List.set_cons_zero, List.set_cons_succ]
  refine wpAnyH_take (i := 3) (v := (.map (some mq))) (by simp only [List.getElem?_toArray, List.getElem?_cons_zero, List.getElem?_cons_succ]; rfl) (by kernel_rfl) (by kernel_rfl) (by kernel_rfl) (by exact fun _ _ _ h => h) (y_l_mq (by kernel_rfl) _ rfl _ _ rfl _ (fun u hs => hs.2.at_.2.2.2.2.2)) hS ?_
  try simp only [Act.put, List.setIfInBounds_toArray, List.set_cons_zero, List.set_cons_succ]
  refine wpAnyH_take (i := 4) (v := (.agg (bv key).toArray)) (by simp only [List.getElem?_toArray, List.getElem?_cons_zero, List.getElem?_cons_succ]; rfl) (by kernel_rfl) (by kernel_rfl) (by kernel_rfl) (by exact fun _ _ _ h => h) (y_s_Hash (by kernel_rfl) _ rfl _ _ rfl key HK.out.1.1 (fun u hs => blk_rng hs.1)) hS ?_
  try simp only [Act.put, List.setIfInBounds_toArray, List.set_cons_zero, List.set_cons_succ]
  refine wpAnyH_ready (rs := [5]) (by kernel_rfl) (by simp) ?_
  refine AllReadyH.cons (by simp only [List.getElem?_toArray, List.getElem?_cons_zero, List.getElem?_cons_succ]; rfl) (fun K hK => ?_) AllReadyH.nil
  have bD : Below u3.heap.size u3 u3.drew := (Below.refl _ _).drew
  have hSy := HV3.out.1.keep bD
  obtain ⟨u4, hr4, hE4, t4⟩ := hSy.cs.bad.del HK.out.1 _
  refine r_delete (by kernel_rfl) _ _ _ _ rfl _ _ u4 rfl rfl hr4 ?_
  have hF4 : ∀ i, i = mq → F i := fun i e => by rw [e]; exact hSy.cs.fs.2.2
  have hnk : kb ≠ mq := fun e => by have := (hSy.lf mq hSy.cs.fs.2.2).2; have := HL.out mq (Or.inl hSy.cs.fs.2.2); omega
  have hna : w.heap.size ≠ mq := fun e => by have := HL.out mq (Or.inl hSy.cs.fs.2.2); omega
  have hS4 := (⟨t4.at_new hS.1 hnk, hS.2.turn t4 (fun e => ne_map_blk hSy.cs.st.blk hSy.cs.bad.own e.symm)⟩ : u4.heap[kb]? = some (.cells (bv key).toArray 38 (0, 0)) ∧ Stb u4 sb g bk most ord mb mq)
  have HV4 : Hid (Sy u4 sb g bk bits most mb mq N (ND + 12) (NB + 1) ks bl cnt (given (asked sd 81) key x) lg F FD3 FB1 ord D V E ∧ u4.heap[kb]? = some (.cells (bv key).toArray 38 (0, 0)) ∧ u4.heap[w.heap.size]? = some (.cells (bv z32).toArray 38 (0, 0)) ∧ Vo (All F FD FB) u4 (.slice sa m sc) x ∧ Turn (All F FD FB) w u4) :=
    ⟨hSy.inner t4 hF4 (hSy.cs.delBad t4 hE4), hS4.1, t4.at_new (show u3.drew.heap[w.heap.size]? = _ from HV3.out.2.2.1) hna, (HV3.out.2.2.2.1.keep bD).turn t4 (fun i e _ => Or.inl (hF4 i e)), (HV3.out.2.2.2.2.1.trans (Turn.of_below (F := All F FD FB) bD) (fun _ q => Or.inl q)).trans t4 (fun i e => Or.inl (Or.inl (hF4 i e)))⟩
  clear hSy hE4 t4 hF4 hnk hna hr4
  refine hK.out _ _ hS4 (fun hS => ?_)
  clear hK K
  try simp only [Act.put]
  refine wpAnyH_done (by kernel_rfl) ?_ _
  clear hS
  go_wp2_with fail
  refine wp_region_held_drew (S := fun u => u.heap[kb]? = some (.cells (bv key).toArray 38 (0, 0))) (by kernel_rfl) (by exact HV4.out.2.1) ?_
  intro hS
  change wpAnyH _ _ _ _ _ 6 _ _ _
  refine wpAnyH_take (i := 0) (v := (.pointer (some ⟨sb, 0, none⟩))) (by simp only [List.getElem?_toArray, List.getElem?_cons_zero]; rfl) (by kernel_rfl) (by kernel_rfl) (by kernel_rfl) (by exact fun _ _ _ h => h) (y_move (by kernel_rfl) _ rfl _ rfl) hS ?_
  try simp only [Act.put, List.setIfInBounds_toArray, List.set_cons_zero, List.set_cons_succ]
  refine wpAnyH_take (i := 1) (v := (.pointer (some ⟨sb, 0, none⟩))) (by simp only [List.getElem?_toArray, List.getElem?_cons_zero, List.getElem?_cons_succ]; rfl) (by kernel_rfl) (by kernel_rfl) (by kernel_rfl) (by exact fun _ _ _ h => h) (y_nil (by kernel_rfl) _ rfl _ rfl) hS ?_
  try simp only [Act.put, List.setIfInBounds_toArray, List.set_cons_zero, List.set_cons_succ]
  refine wpAnyH_take (i := 2) (v := (.pointer (some ⟨sb, 0 + 2, none⟩))) (by simp only [List.getElem?_toArray, List.getElem?_cons_zero, List.getElem?_cons_succ]; rfl) (by kernel_rfl) (by kernel_rfl) (by kernel_rfl) (by exact fun _ _ _ h => h) (y_f_Sto2 (by kernel_rfl) _ rfl _ _ rfl) hS ?_
  try simp only [Act.put, List.setIfInBounds_toArray, List.set_cons_zero, List.set_cons_succ]
  refine wpAnyH_take (i := 3) (v := (.agg (bv key).toArray)) (by simp only [List.getElem?_toArray, List.getElem?_cons_zero, List.getElem?_cons_succ]; rfl) (by kernel_rfl) (by kernel_rfl) (by kernel_rfl) (by exact fun _ _ _ h => h) (y_s_Hash (by kernel_rfl) _ rfl _ _ rfl key HK.out.1.1 (fun u hs => blk_rng hs)) hS ?_
  try simp only [Act.put, List.setIfInBounds_toArray, List.set_cons_zero, List.set_cons_succ]
  refine wpAnyH_take (i := 4) (v := (.slice sa m sc)) (by simp only [List.getElem?_toArray, List.getElem?_cons_zero, List.getElem?_cons_succ]; rfl) (by kernel_rfl) (by kernel_rfl) (by kernel_rfl) (by exact fun _ _ _ h => h) (y_move (by kernel_rfl) _ rfl _ rfl) hS ?_
  try simp only [Act.put, List.setIfInBounds_toArray, List.set_cons_zero, List.set_cons_succ]
  refine wpAnyH_ready (rs := [5]) (by kernel_rfl) (by simp) ?_
  refine AllReadyH.cons (by simp only [List.getElem?_toArray, List.getElem?_cons_zero, List.getElem?_cons_succ]; rfl) (fun K hK => ?_) AllReadyH.nil
  have bD : Below u4.heap.size u4 u4.drew := (Below.refl _ _).drew
  have hSy := HV4.out.1.keep bD
  go_simp
  have hVo : Vo (fun i => F i ∨ u4.drew.heap.size ≤ i) u4.drew (.slice sa m sc) x := (HV4.out.2.2.2.1.keep bD).mono (fun i q l => by
    rcases q with q | q
    · exact Or.inl q
    · omega)
  refine (add_any (hSy.cs.mono (F' := fun i => F i ∨ u4.drew.heap.size ≤ i) (fun i q => Or.inl q)) (fun i q => Or.inr q) HK.out.1 HK.out.2.2.2.1 HK.out.2.1 hroom hVo (by have := HK.out.2.2.2.2.2.2.1; have := HK.out.2.2.2.2.2.2.2; omega)).mono ?_
  rintro _ u5 ⟨⟨z5, rfl⟩, ord', D', V', E', hC5, ht5⟩
  have hSy5 := hSy.store ht5 hC5
  have hkF : ¬ (F kb ∨ u4.drew.heap.size ≤ kb) := fun q => by
    rcases q with q | q
    · have := HL.out _ (Or.inl q); omega
    · have l := (Array.getElem?_eq_some_iff.1 HV4.out.2.1).1
      have e : u4.drew.heap.size = u4.heap.size := rfl
      omega
  have haF : ¬ (F w.heap.size ∨ u4.drew.heap.size ≤ w.heap.size) := fun q => by
    rcases q with q | q
    · have := HL.out _ (Or.inl q); omega
    · have l := (Array.getElem?_eq_some_iff.1 HV4.out.2.2.1).1
      have e : u4.drew.heap.size = u4.heap.size := rfl
      omega
  have hS5 : u5.heap[kb]? = some (.cells (bv key).toArray 38 (0, 0)) := ht5.at_new hS hkF
  have HV5 : Hid (u5.heap[kb]? = some (.cells (bv key).toArray 38 (0, 0)) ∧ u5.heap[w.heap.size]? = some (.cells (bv z32).toArray 38 (0, 0)) ∧ Turn (All F FD FB) w u5 ∧ ∃ F' ord' D' V' E', Sy u5 sb g bk bits most mb mq (N + 1) (ND + 12) (NB + 1) (ks ++ [key]) (fun k' => if k' = key then some x else bl k') (cnt + 1) (given (asked sd 81) key x) lg F' FD3 FB1 ord' D' V' E' ∧ (∀ i, F' i → F i ∨ w.heap.size < i)) := by
    refine ⟨hS5, ht5.at_new (show u4.drew.heap[w.heap.size]? = _ from HV4.out.2.2.1) haF, (HV4.out.2.2.2.2.trans (Turn.of_below (F := All F FD FB) bD) (fun _ q => Or.inl q)).trans ht5 (fun i q => ?_), _, _, _, _, _, hSy5, fun i q => ?_⟩
    · rcases q with q | q
      · exact Or.inl (Or.inl q)
      · exact Or.inr (Nat.le_trans HV4.out.2.2.2.2.size q)
    · rcases q.1 with q | q
      · exact Or.inl q
      · have l := (Array.getElem?_eq_some_iff.1 HV4.out.2.2.1).1
        have e : u4.drew.heap.size = u4.heap.size := rfl
        exact Or.inr (by omega)
  clear hSy hVo hC5 ht5 hSy5 hkF haF
  refine hK.out _ _ hS5 (fun hS => ?_)
  clear hK K
  try simp only [Act.put, List.setIfInBounds_toArray, List.set_cons_zero, List.set_cons_succ]
  refine wpAnyH_done (by kernel_rfl) ?_ _
  clear hS HV4
  have HR5 : Hid (u5.rangeAt kb 0 (bv key)) := blk_rng HV5.out.1
  go_wp2_with (first
    | refine wpList_load_mid_g (by kernel_rfl) 38 _ (by rfl) kb 0 (by rfl) (bv key) _ HR5.out Tryz.underlying38 rfl HI.out.1 ?_
    | (refine wpList_g (by kernel_rfl) ?_; refine wp_store_row 38 _ _ (by rfl) w.heap.size (bv key).toArray (by rfl) (by rfl) 38 (bv z32).toArray HV5.out.2.1 (by rw [List.size_toArray]; exact HI.out.1) (by rw [List.size_toArray, List.size_toArray, bv_len, bv_len, HK.out.1.1, z32_len]) HI.out.2.2 ?_))
  have hrr := setRow_heap' (cs' := (bv key).toArray) HV5.out.2.1
  have t6 : Turn (fun i => i = w.heap.size) u5 (u5.setRow w.heap.size (bv key).toArray) := Turn.setRow _ _ _ rfl
  have fin : Turn (All F FD FB) w (u5.setRow w.heap.size (bv key).toArray) ∧ ∃ F' FD' FB' ord' D' V' E', Sy (u5.setRow w.heap.size (bv key).toArray) sb g bk bits most mb mq (N + 1) (ND + 12) (NB + 1) (ks ++ [key]) (fun k' => if k' = key then some x else bl k') (cnt + 1) (given (asked sd 81) key x) lg F' FD' FB' ord' D' V' E' ∧ (∀ i, All F' FD' FB' i → All F FD FB i ∨ w.heap.size ≤ i) := by
    obtain ⟨q1, q2, q3, F', ord', D', V', E', q4, q5⟩ := HV5.out
    refine ⟨q3.trans t6 (fun i e => Or.inr (by omega)), F', FD3, FB1, ord', D', V', E', q4.frame t6 (fun i e _ => ?_), fun i q => ?_⟩
    · subst e
      refine ⟨?_, fun q => ?_, fun q => ?_, fun q => ?_⟩
      · have := HGR.out; omega
      · rcases q5 _ q with q | q
        · have := HL.out _ (Or.inl q); omega
        · omega
      · rcases HV3.out.2.2.2.2.2.2.1 _ q with q | q
        · have := HL.out _ (Or.inr (Or.inl q)); omega
        · omega
      · rcases HV3.out.2.2.2.2.2.1 _ q with q | q
        · have := HL.out _ (Or.inr (Or.inr q)); omega
        · omega
    · rcases q with q | q | q
      · rcases q5 _ q with q | q
        · exact Or.inl (Or.inl q)
        · exact Or.inr (Nat.le_of_lt q)
      · rcases HV3.out.2.2.2.2.2.2.1 _ q with q | q
        · exact Or.inl (Or.inr (Or.inl q))
        · exact Or.inr (Nat.le_of_lt q)
      · rcases HV3.out.2.2.2.2.2.1 _ q with q | q
        · exact Or.inl (Or.inr (Or.inr q))
        · exact Or.inr (Nat.le_of_lt q)
  exact bodyPost_ret (res2 rfl _ _ w.heap.size _ rfl (run_loadVar_mid _ w.heap.size 0 38 (bv key) _ (rng_row hrr) Tryz.underlying38 rfl HI.out.1)) rfl ⟨rfl, fin⟩
end Go.Proofs.YtpmdjopojcgpeaaGreatDoor
