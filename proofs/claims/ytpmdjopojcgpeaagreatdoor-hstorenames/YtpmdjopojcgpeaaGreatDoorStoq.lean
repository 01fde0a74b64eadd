import Derived.Test.YtpmdjopojcgpeaaGreatDoorLaq
/-
  (*Device).store. (Written by gen_sto.py.)
-/
namespace Go.Proofs.YtpmdjopojcgpeaaGreatDoor
open Go.RowKit Go.Maps Go.ChangeMaps

set_option maxRecDepth 100000 in
set_option maxHeartbeats 6400000 in
theorem store_any {w : World} {F : Nat → Prop} {g : Nat} {s : Dst} {X : Dx} (hd : Db w g (X.dvf s)) (h : Dr w F s X) (hB : ∀ i, w.heap.size ≤ i → F i) (hg : F g) (hN : X.N ≤ 1073741819) {key : List Nat} (hk : IsH key) {dv : Value} {x : List Nat} (hv : Vb w dv x) (hx : x.length ≤ 1048576) :
    Calls Tryz.prog 201 #[.pointer (some ⟨g, 0, none⟩), .agg (bv key).toArray, dv] w fun e w' => (∃ z, e = .returned z) ∧ ∃ X', Db w' g (X'.dvf (layS s key x)) ∧ Dr w' F (layS s key x) X' ∧ X'.N ≤ X.N + 4 ∧ X'.lg = X.lg ∧ Turn F w w' := by
  obtain ⟨W, eW⟩ : ∃ W, W = w.alloc (.cells (bv key).toArray 38) := ⟨_, rfl⟩
  have b0 : Below w.heap.size w W := by rw [eW]; exact (Below.refl _ _).alloc (Nat.le_refl _) _
  have hkb : W.heap[w.heap.size]? = some (.cells (bv key).toArray 38 (0, 0)) := by rw [eW]; exact heap_alloc_new _ _
  have HF : Hid ((∀ i, w.heap.size ≤ i → F i) ∧ F g) := ⟨hB, hg⟩
  have HK : Hid (IsH key ∧ X.N ≤ 1073741819) := ⟨hk, hN⟩
  have hgn : g < w.heap.size := hd.lt
  have HM2 : Hid (X.m2 < w.heap.size) := h.ve.mh.map.lt
  have HV2 : Hid (∀ b, (X.V2 key).ownBlock = some b → b < w.heap.size) := fun b hb => by
    obtain ⟨n, xs, q, _⟩ := h.ve.row key hk
    exact (q.lt b hb).2
  have HLG : Hid (∀ b, X.lg.ownBlock = some b → b < w.heap.size) := fun b hb => (h.lg.own.lt b hb).2
  have HCL : Hid (Calls Tryz.prog 63 #[dv] W fun e w' => ∃ u, e = .returned u ∧ Ans W w' u x) := bclone_any (hv.keep b0)
  have HW : Hid (∀ u, Below W.heap.size W u → Db u g (X.dvf s) ∧ Dr u F s X ∧ u.heap[w.heap.size]? = some (.cells (bv key).toArray 38 (0, 0)) ∧ Below w.heap.size w u) := fun u b2 => by
    have b := ch b0 b2
    exact ⟨hd.keep b, h.keep b, (b2.block _ (by rw [eW]; simp)).trans hkb, b⟩
  have hszW : W.heap.size = w.heap.size + 1 := by rw [eW]; simp
  have HX : Hid (x.length ≤ 1048576 ∧ W.heap.size = w.heap.size + 1) := ⟨hx, hszW⟩
  obtain ⟨va0, vn0, vc0, ed⟩ : ∃ a n c, dv = .slice a n c := by
    obtain ⟨a, bb, off, c, e, _⟩ := hv
    exact ⟨a, _, c, e⟩
  subst ed
  rw [eW] at HCL
  clear hd h hB hg hk hkb b0 hv hx hszW hN
  go_enter Tryz.func201, Tryz.ntmps201
  go_wp2_with (go_at_call 63; refine HCL.out.mono ?_)
  rintro e w1 ⟨u, rfl, hA⟩
  rw [← eW] at hA
  obtain ⟨ua, uc, eu⟩ := hA.form
  subst eu
  obtain ⟨un, eun⟩ : ∃ n, n = x.length := ⟨_, rfl⟩
  rw [← eun] at hA ⊢
  have hDat := hA.dat HX.out.1
  have hUB : ∀ b, (Value.slice ua un uc).ownBlock = some b → w.heap.size < b := fun b hb => by
    have h1 := (hA.own.lt b hb).1
    have := HX.out.2
    omega
  obtain ⟨X1, eX1⟩ : ∃ Y : Dx, Y = { X with E := fun i => X.E i ∨ (Value.slice ua un uc).ownBlock = some i } := ⟨_, rfl⟩
  have HU : Hid (Db w1 g (X1.dvf s) ∧ Dr w1 F s X1 ∧ Dat w1 X1.E (.slice ua un uc) x ∧ w1.heap[w.heap.size]? = some (.cells (bv key).toArray 38 (0, 0)) ∧ Below w.heap.size w w1) := by
    obtain ⟨q1, q2, q3, q4⟩ := HW.out w1 hA.below
    rw [eX1]
    exact ⟨q1, q2.data (fun i q => Or.inl q) (fun i q => by rcases q with q | q; exact q2.eF i q; exact HF.out.1 i (Nat.le_of_lt (hUB i q))) (fun i q z => by rcases z with z | z; exact q2.sep i q z; have := hUB i z; have := HLG.out i q; omega), hDat.mono (fun i q => Or.inr q), q3, q4⟩
  have HX1 : Hid (X1.N = X.N ∧ X1.lg = X.lg ∧ X1.m2 = X.m2 ∧ X1.V2 = X.V2) := by rw [eX1]; exact ⟨rfl, rfl, rfl, rfl⟩
  clear hA hDat hUB HW HCL eW eX1 eun
  go_wp2_with fail
  have hn : X1.N < maxLen := by unfold maxLen; have := HK.out.2; have := HX1.out.1; omega
  obtain ⟨n0, xs, hrow, _, hnN⟩ := HU.out.2.1.ve.row key HK.out.1
  obtain ⟨va, vc, ev⟩ := own_slice hrow
  refine wp_region_held_drew (S := fun u => u.heap[w.heap.size]? = some (.cells (bv key).toArray 38 (0, 0)) ∧ Db u g (X1.dvf s)) (by kernel_rfl) (by exact ⟨HU.out.2.2.2.1, ⟨HU.out.1.blk, HU.out.1.tag⟩⟩) ?_
  intro hS
  change wpAnyH _ _ _ _ _ 12 _ _ _
  refine wpAnyH_take (i := 0) (v := (.pointer (some ⟨g, 0, none⟩))) (by simp only [List.getElem?_toArray, List.getElem?_cons_zero]; rfl) (by kernel_rfl) (by kernel_rfl) (by kernel_rfl) (by exact fun _ _ _ h => h) (y_move (by kernel_rfl) _ rfl _ rfl) hS ?_
  try simp only [Act.put, List.setIfInBounds_toArray, List.set_cons_zero, List.set_cons_succ]
  refine wpAnyH_take (i := 1) (v := (.pointer (some ⟨g, 0, none⟩))) (by simp only [List.getElem?_toArray, List.getElem?_cons_zero, List.getElem?_cons_succ]; rfl) (by kernel_rfl) (by kernel_rfl) (by kernel_rfl) (by exact fun _ _ _ h => h) (y_nil (by kernel_rfl) _ rfl _ rfl) hS ?_
  try simp only [Act.put, List.setIfInBounds_toArray, List.set_cons_zero, List.set_cons_succ]
  refine wpAnyH_take (i := 2) (v := (.pointer (some ⟨g, 0 + 40, none⟩))) (by simp only [List.getElem?_toArray, List.getElem?_cons_zero, List.getElem?_cons_succ]; rfl) (by kernel_rfl) (by kernel_rfl) (by kernel_rfl) (by exact fun _ _ _ h => h) (y_f_Dev8 (by kernel_rfl) _ rfl _ _ rfl) hS ?_
  try simp only [Act.put, List.setIfInBounds_toArray, List.set_cons_zero, List.set_cons_succ]
  refine wpAnyH_take (i := 3) (v := (.map (some X1.m2))) (by simp only [List.getElem?_toArray, List.getElem?_cons_zero, List.getElem?_cons_succ]; rfl) (by kernel_rfl) (by kernel_rfl) (by kernel_rfl) (by exact fun _ _ _ h => h) (y_l_mv (by kernel_rfl) _ rfl _ _ rfl _ (fun u hs => (hs.2).at_.2.2.2.2.2.2.2.2.1)) hS ?_
  try simp only [Act.put, List.setIfInBounds_toArray, List.set_cons_zero, List.set_cons_succ]
  refine wpAnyH_take (i := 4) (v := (.agg (bv key).toArray)) (by simp only [List.getElem?_toArray, List.getElem?_cons_zero, List.getElem?_cons_succ]; rfl) (by kernel_rfl) (by kernel_rfl) (by kernel_rfl) (by exact fun _ _ _ h => h) (y_s_Hash (by kernel_rfl) _ rfl _ _ rfl key HK.out.1.1 (fun u hs => blk_rng hs.1)) hS ?_
  try simp only [Act.put, List.setIfInBounds_toArray, List.set_cons_zero, List.set_cons_succ]
  refine wpAnyH_take (i := 5) (v := (.slice ua un uc)) (by simp only [List.getElem?_toArray, List.getElem?_cons_zero, List.getElem?_cons_succ]; rfl) (by kernel_rfl) (by kernel_rfl) (by kernel_rfl) (by exact fun _ _ _ h => h) (y_move (by kernel_rfl) _ rfl _ rfl) hS ?_
  try simp only [Act.put, List.setIfInBounds_toArray, List.set_cons_zero, List.set_cons_succ]
  refine wpAnyH_ready (rs := [6]) (by kernel_rfl) (by simp) ?_
  refine AllReadyH.cons (by simp only [List.getElem?_toArray, List.getElem?_cons_zero, List.getElem?_cons_succ]; rfl) (fun K hK => ?_) AllReadyH.nil
  refine r_one_lists (by kernel_rfl) _ rfl (.slice ua un uc) [(.slice ua un uc)] rfl rfl rfl ?_
  have bA : Below w1.heap.size w1 (w1.drew.alloc (.cells [Value.slice ua un uc].toArray 29)) := ((Below.refl w1.heap.size w1).drew).alloc (Nat.le_refl _) _
  have hDr1 := HU.out.2.1.keep bA
  have hDb1 := HU.out.1.keep bA
  have hrow1 := own_off hrow (Turn.of_below (F := fun _ => False) bA) (Off.none _ _)
  have hdat1 : Dat _ X1.E (.slice ua un uc) x := HU.out.2.2.1.off (G := fun _ => False) (Turn.of_below bA) (Off.none _ _)
  have hrg1 : (w1.drew.alloc (.cells [Value.slice ua un uc].toArray 29)).rangeAt w1.drew.heap.size 0 [(.slice ua un uc)] := rng_new _ _ _
  have hT1 : Turn F w (w1.drew.alloc (.cells [Value.slice ua un uc].toArray 29)) := Turn.of_below (HU.out.2.2.2.2.trans (bA.mono HU.out.2.2.2.2.size))
  have hsz1 : w.heap.size < w1.drew.heap.size := (Array.getElem?_eq_some_iff.1 HU.out.2.2.2.1).1
  replace hS := (⟨(bA.block _ (Array.getElem?_eq_some_iff.1 HU.out.2.2.2.1).1).trans HU.out.2.2.2.1, hDb1⟩ : (w1.drew.alloc (.cells [Value.slice ua un uc].toArray 29)).heap[w.heap.size]? = some (.cells (bv key).toArray 38 (0, 0)) ∧ Db (w1.drew.alloc (.cells [Value.slice ua un uc].toArray 29)) g (X1.dvf s))
  refine hK.out _ _ hS (fun _ => ?_)
  generalize w1.drew.heap.size = b1 at hrg1 hsz1 ⊢
  generalize (w1.drew.alloc (.cells [Value.slice ua un uc].toArray 29)) = u1 at hS hDr1 hDb1 hrow1 hdat1 hrg1 hT1 ⊢
  clear hK K
  try simp only [Act.put, List.setIfInBounds_toArray, List.set_cons_zero, List.set_cons_succ]
  refine wpAnyH_ready (rs := [7]) (by kernel_rfl) (by simp) ?_
  refine AllReadyH.cons (by simp only [List.getElem?_toArray, List.getElem?_cons_zero, List.getElem?_cons_succ]; rfl) (fun K hK => ?_) AllReadyH.nil
  obtain ⟨st, u2, es1, c1, hr2, t2, hm2, hst⟩ := hDr1.ve.mh.entry hn Tryz.underlying84 zeroMv HK.out.1
  rw [ev] at hr2
  refine r_entry (by kernel_rfl) _ _ _ rfl _ _ _ u2 rfl rfl hr2 ?_
  have hmlt : X1.m2 < w.heap.size := HX1.out.2.2.1 ▸ HM2.out
  have hS2 := (⟨t2.at_new hS.1 (by omega), hDb1.turn t2 (fun e => hDb1.neM hDr1.ve.mh.map e)⟩ : u2.heap[w.heap.size]? = some (.cells (bv key).toArray 38 (0, 0)) ∧ Db u2 g (X1.dvf s))
  refine hK.out _ _ hS2 (fun hS => ?_)
  clear hK K
  try simp only [Act.put, List.setIfInBounds_toArray, List.set_cons_zero, List.set_cons_succ]
  refine wpAnyH_take (i := 8) (v := (.slice va n0 vc)) (by simp only [List.getElem?_toArray, List.getElem?_cons_zero, List.getElem?_cons_succ]; rfl) (by kernel_rfl) (by kernel_rfl) (by kernel_rfl) (by exact fun _ _ _ h => h) (y_ext (by kernel_rfl) _ _ rfl _ _ rfl rfl) hS ?_
  try simp only [Act.put, List.setIfInBounds_toArray, List.set_cons_zero, List.set_cons_succ]
  refine wpAnyH_take (i := 10) (v := (goInt st)) (by simp only [List.getElem?_toArray, List.getElem?_cons_zero, List.getElem?_cons_succ]; rfl) (by kernel_rfl) (by kernel_rfl) (by kernel_rfl) (by exact fun _ _ _ h => h) (y_ext (by kernel_rfl) _ _ rfl _ _ rfl rfl) hS ?_
  try simp only [Act.put, List.setIfInBounds_toArray, List.set_cons_zero, List.set_cons_succ]
  refine wpAnyH_ready (rs := [9]) (by kernel_rfl) (by simp) ?_
  refine AllReadyH.cons (by simp only [List.getElem?_toArray, List.getElem?_cons_zero, List.getElem?_cons_succ]; rfl) (fun K hK => ?_) AllReadyH.nil
  have hrow2 : u2.ownsRow 0 29 1 (.slice va n0 vc) n0 xs := by rw [← ev]; exact own_off hrow1 t2 (Off.map hDr1.ve.mh.map _)
  refine r_app_lists (by kernel_rfl) _ _ rfl (.slice va n0 vc) n0 xs rfl hrow2 b1 [(.slice ua un uc)] rfl rfl (rng_same hrg1 (t2.block b1 (rng_lt hrg1 (by simp)) (by omega))) (fun u hu => by rw [List.mem_singleton.1 hu]; rfl) (by have := HK.out.2; have := HX1.out.1; omega) ?_
  intro v' u3 own3 gr3 at3
  have gr3' : u2.grownBy u3 (X1.V2 key).ownBlock := by rw [ev]; exact gr3
  have hv2lt : ∀ b, (X1.V2 key).ownBlock = some b → b < w.heap.size := HX1.out.2.2.2 ▸ HV2.out
  have t3 : Turn (fun i => (X1.V2 key).ownBlock = some i) u2 u3 := Turn.of_grown gr3' (fun _ e => e)
  have hDb2 := hS.2
  have hS3 := (⟨t3.at_new hS.1 (fun e => by have := hv2lt _ e; omega), hDb2.turn t3 (fun e => own_ne_cells hrow2 hDb2.blk (by decide) (ev ▸ e))⟩ : u3.heap[w.heap.size]? = some (.cells (bv key).toArray 38 (0, 0)) ∧ Db u3 g (X1.dvf s))
  obtain ⟨wa, wc, ew⟩ := own_slice own3
  refine hK.out _ _ hS3 (fun hS => ?_)
  subst ew
  clear hK K
  try simp only [Act.put, List.setIfInBounds_toArray, List.set_cons_zero, List.set_cons_succ]
  refine wpAnyH_ready (rs := [11]) (by kernel_rfl) (by simp) ?_
  refine AllReadyH.cons (by simp only [List.getElem?_toArray, List.getElem?_cons_zero, List.getElem?_cons_succ]; rfl) (fun K hK => ?_) AllReadyH.nil
  have hm3 : u3.heap[X1.m2]? = some (.map es1 c1) := (t3.block _ (Array.getElem?_eq_some_iff.1 hm2).1 (fun e => by
    obtain ⟨cur, hc⟩ := own_block hrow2 (ev ▸ e)
    rw [hm2] at hc
    cases hc)).trans hm2
  obtain ⟨u4, hr4, hMh, t4⟩ := hst u3 (.slice wa (n0 + 1) wc) hm3
  refine r_estore (by kernel_rfl) _ _ _ _ rfl _ _ _ u4 rfl rfl rfl hr4 ?_
  have own4 : u4.ownsRow 0 29 1 (.slice wa (n0 + 1) wc) (n0 + 1) (xs ++ [(.slice ua un uc)]) := own_off own3 t4 (fun b cs fz hb q => by subst q; rw [hm3] at hb; cases hb)
  have tt : Turn (fun i => i = X1.m2 ∨ (X1.V2 key).ownBlock = some i) u1 u4 := ((t2.mono (fun i q => Or.inl (Or.inl q))).trans t3 (fun i q => Or.inl (Or.inr q))).trans t4 (fun i q => Or.inl (Or.inl q))
  have hsz12 : u1.heap.size ≤ u2.heap.size := t2.size
  have hDr4 := hDr1.version (fun i hi => HF.out.1 i (Nat.le_trans hT1.size hi)) HK.out.1 hnN own4 tt (by
    rcases at3 with e | e
    · exact Or.inl (by rw [ev]; exact e)
    · exact Or.inr ⟨_, e, hsz12⟩) hMh
  have hDb3 := hS.2
  have hS4 := (⟨t4.at_new hS.1 (by omega), hDb3.turn t4 (fun e => hDb1.neM hDr1.ve.mh.map e)⟩ : u4.heap[w.heap.size]? = some (.cells (bv key).toArray 38 (0, 0)) ∧ Db u4 g (X1.dvf s))
  have hT4 : Turn F w u4 := hT1.trans tt (fun i q => by
    rcases q with q | q
    · exact Or.inl (q ▸ hDr1.mf.2.1)
    · exact Or.inl (hDr1.ve.foot key i HK.out.1 q))
  have hdat4 : Dat u4 X1.E (.slice ua un uc) x := hdat1.off tt ((Off.map hDr1.ve.mh.map _).or (Off.row hrow1 (by decide)))
  obtain ⟨D4, eD4⟩ : ∃ D, D = X1.D2.put (klit key) (.held (.slice wa (n0 + 1) wc)) := ⟨_, rfl⟩
  rw [← eD4] at hDr4
  have HV : Hid (Db u4 g ({ X1 with D2 := D4, V2 := fun k' => if k' = key then .slice wa (n0 + 1) wc else X1.V2 k', N := X1.N + 1 }.dvf s) ∧ Dr u4 F s { X1 with D2 := D4, V2 := fun k' => if k' = key then .slice wa (n0 + 1) wc else X1.V2 k', N := X1.N + 1 } ∧ Dat u4 X1.E (.slice ua un uc) x ∧ u4.heap[w.heap.size]? = some (.cells (bv key).toArray 38 (0, 0)) ∧ Turn F w u4) := ⟨hS4.2, hDr4, hdat4, hS4.1, hT4⟩
  refine hK.out _ _ hS4 (fun _ => ?_)
  clear hS hS4 hDr4 hDb3 hT4 hdat4 own4 tt t4 hMh hr4 hm3 hst hm2 t2 t3 hS3 hDb2 own3 gr3 gr3' at3 hrow2 hr2 hS2 hDr1 hDb1 hrow1 hdat1 hrg1 hT1 hrow hsz1 hsz12
  clear hK K
  try simp only [Act.put]
  refine wpAnyH_done (by kernel_rfl) ?_ _
  clear HU hnN
  obtain ⟨X2, eX2⟩ : ∃ Y : Dx, Y = { X1 with D2 := D4, V2 := fun k' => if k' = key then .slice wa (n0 + 1) wc else X1.V2 k', N := X1.N + 1 } := ⟨_, rfl⟩
  rw [← eX2] at HV
  have HX2 : Hid (X2.N = X1.N + 1 ∧ X2.E = X1.E ∧ X2.lg = X1.lg) := ⟨by rw [eX2], by rw [eX2], by rw [eX2]⟩
  have HLAY : Hid (Calls Tryz.prog 202 #[.pointer (some ⟨g, 0, none⟩), .agg (bv key).toArray, .agg #[.int .i64 0, .slice ua un uc, .bool true]] u4 fun e w' => (∃ z, e = .returned z) ∧ ∃ X', Db w' g (X'.dvf (layS s key x)) ∧ Dr w' F (layS s key x) X' ∧ X'.N ≤ X2.N + 3 ∧ X'.E = X2.E ∧ X'.lg = X2.lg ∧ Turn F u4 w') :=
    lay_any HV.out.1 HV.out.2.1 (fun i hi => HF.out.1 i (Nat.le_trans HV.out.2.2.2.2.size hi)) HF.out.2 (by have := HX2.out.1; have := HX1.out.1; have := HK.out.2; omega) HK.out.1 (by rw [HX2.out.2.1]; exact HV.out.2.2.1) 0
  have HR : Hid (u4.rangeAt w.heap.size 0 (bv key)) := blk_rng HV.out.2.2.2.1
  have HI : Hid ((Tryz.prog.info? 38).map (·.size) = some (bv key).length) := by rw [bv_len, HK.out.1.1]; exact i33
  clear eX2 HM2 HV2 HLG hn ev
  go_wp2_with (first
    | refine wpList_load_mid_g (by kernel_rfl) 38 _ (by rfl) w.heap.size 0 (by rfl) (bv key) _ HR.out Tryz.underlying38 rfl HI.out ?_
    | (go_at_call 202; refine HLAY.out.mono ?_))
  rintro e w5 ⟨⟨z, rfl⟩, X5, q1, q2, q3, q4, q5, q6⟩
  have HZ : Hid (∃ X', Db w5 g (X'.dvf (layS s key x)) ∧ Dr w5 F (layS s key x) X' ∧ X'.N ≤ X.N + 4 ∧ X'.lg = X.lg ∧ Turn F w w5) := ⟨X5, q1, q2, by have := HX2.out.1; have := HX1.out.1; omega, by rw [q5, HX2.out.2.2, HX1.out.2.1], HV.out.2.2.2.2.trans q6 (fun _ q => Or.inl q)⟩
  clear q1 q2 q3 q4 q5 q6 HV HLAY
  go_wp2_with fail
  exact bodyPost_end (results_none rfl _ _ _) rfl ⟨⟨_, rfl⟩, HZ.out⟩
end Go.Proofs.YtpmdjopojcgpeaaGreatDoor
