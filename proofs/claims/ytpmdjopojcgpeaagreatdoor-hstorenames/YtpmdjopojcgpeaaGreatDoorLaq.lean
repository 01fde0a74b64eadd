import Derived.Test.YtpmdjopojcgpeaaGreatDoorReq
/-
  (*Device).lay of a blob. (Written by gen_la.py.)
-/
namespace Go.Proofs.YtpmdjopojcgpeaaGreatDoor
open Go.RowKit Go.Maps Go.ChangeMaps

/-- what lay makes of a device -/
def layS (s : Dst) (key x : List Nat) : Dst := { s with sta := fun k' => if k' = key then s.sta key ++ [⟨(s.tm : Int) + 1, x, true⟩] else s.sta k', tch := s.tch ++ [key], bl := fun k' => if k' = key then some x else s.bl k', cnt := if (s.bl key).isSome then s.cnt else s.cnt + 1 }
theorem blk_rng {u : World} {b : Nat} {cs : List Value} {t : TypeId} (h : u.heap[b]? = some (.cells cs.toArray t (0, 0))) : u.rangeAt b 0 cs := rng_row h
theorem Turn.at_new {G : Nat → Prop} {u u' : World} (t : Turn G u u') {b : Nat} {ob : Obj} (h : u.heap[b]? = some ob) (hG : ¬ G b) : u'.heap[b]? = some ob := (t.block b (Array.getElem?_eq_some_iff.1 h).1 hG).trans h
set_option maxRecDepth 100000 in
set_option maxHeartbeats 6400000 in
theorem lay_any {w : World} {F : Nat → Prop} {g : Nat} {s : Dst} {X : Dx} (hd : Db w g (X.dvf s)) (h : Dr w F s X) (hB : ∀ i, w.heap.size ≤ i → F i) (hg : F g) (hN : X.N ≤ 1073741820) {key : List Nat} (hk : IsH key) {da : Option Addr} {dn dc : Nat} {x : List Nat} (hdat : Dat w X.E (.slice da dn dc) x) (t0 : Int) :
    Calls Tryz.prog 202 #[.pointer (some ⟨g, 0, none⟩), .agg (bv key).toArray, .agg #[.int .i64 t0, .slice da dn dc, .bool true]] w fun e w' => (∃ z, e = .returned z) ∧ ∃ X', Db w' g (X'.dvf (layS s key x)) ∧ Dr w' F (layS s key x) X' ∧ X'.N ≤ X.N + 3 ∧ X'.E = X.E ∧ X'.lg = X.lg ∧ Turn F w w' := by
  obtain ⟨W0, eW0⟩ : ∃ W, W = w.alloc (.cells (bv key).toArray 38) := ⟨_, rfl⟩
  obtain ⟨W, eW⟩ : ∃ W, W = W0.alloc (.cells #[.int .i64 t0, .slice da dn dc, .bool true] 154) := ⟨_, rfl⟩
  have b0 : Below w.heap.size w W0 := by rw [eW0]; exact (Below.refl _ _).alloc (Nat.le_refl _) _
  have b1 : Below W0.heap.size W0 W := by rw [eW]; exact (Below.refl _ _).alloc (Nat.le_refl _) _
  have sz0 : W0.heap.size = w.heap.size + 1 := by rw [eW0]; simp
  have hkb0 : W0.heap[w.heap.size]? = some (.cells (bv key).toArray 38 (0, 0)) := by rw [eW0]; exact heap_alloc_new _ _
  have hkb : W.heap[w.heap.size]? = some (.cells (bv key).toArray 38 (0, 0)) := (b1.block _ (by omega)).trans hkb0
  have hsb : W.heap[w.heap.size + 1]? = some (.cells #[.int .i64 t0, .slice da dn dc, .bool true] 154 (0, 0)) := by rw [eW, ← sz0]; exact heap_alloc_new _ _
  have bW := ch b0 b1
  obtain ⟨la, lc, el⟩ := h.lsf
  have htm : s.tm ≤ 1073741820 := Nat.le_trans h.bd.1 hN
  obtain ⟨ln, eln⟩ : ∃ n, n = s.tm := ⟨_, rfl⟩
  have HT : Hid (Calls Tryz.prog 173 #[.pointer (some ⟨g, 0, none⟩)] W fun e w' => e = .returned (.int .i64 (ln : Int)) ∧ w' = W) := by
    rw [eln]
    exact time_any (hd.keep bW) el
  have hwr : wrap64 ((ln : Int) + 1) = (ln : Int) + 1 := by unfold wrap64; omega
  have hgn : g < w.heap.size := hd.lt
  obtain ⟨w1, ew1⟩ : ∃ u, u = W0.alloc (.cells #[.int .i64 ((ln : Int) + 1), .slice da dn dc, .bool true] 154) := ⟨_, rfl⟩
  have HU : Hid (Db w1 g (X.dvf s) ∧ Dr w1 F s X ∧ Dat w1 X.E (.slice da dn dc) x ∧ w1.heap[w.heap.size]? = some (.cells (bv key).toArray 38 (0, 0)) ∧ w1.heap[w.heap.size + 1]? = some (.cells #[.int .i64 ((ln : Int) + 1), .slice da dn dc, .bool true] 154 (0, 0)) ∧ Below w.heap.size w w1) := by
    have b2 : Below W0.heap.size W0 w1 := by rw [ew1]; exact (Below.refl _ _).alloc (Nat.le_refl _) _
    have bb := ch b0 b2
    refine ⟨hd.keep bb, h.keep bb, hdat.off (G := fun _ => False) (Turn.of_below bb) (Off.none _ _), (b2.block _ (by omega)).trans hkb0, ?_, bb⟩
    rw [ew1, ← sz0]
    exact heap_alloc_new _ _
  have HF : Hid ((∀ i, w.heap.size ≤ i → F i) ∧ F g) := ⟨hB, hg⟩
  have HM3 : Hid (X.m3 < w.heap.size) := h.st.mh.map.lt
  have HTL : Hid (∀ b, X.tc.ownBlock = some b → b < w.heap.size) := fun b hb => (h.tc.lt b hb).2
  have HV3 : Hid (∀ b, (X.V3 key).ownBlock = some b → b < w.heap.size) := fun b hb => by
    obtain ⟨n, xs, q, _⟩ := h.st.row key hk
    exact (q.lt b hb).2
  have HK : Hid (IsH key ∧ X.N ≤ 1073741820 ∧ ln = s.tm) := ⟨hk, hN, eln⟩
  have cs0 := cell_of_row W (w.heap.size + 1) 0 _ _ _ hsb
  have fz : W.frozen? ⟨w.heap.size + 1, 0, none⟩ = false := by simp [World.frozen?, hsb]
  have cs0' : W.cell? ⟨w.heap.size + 1, 0, none⟩ = some (.int .i64 t0) := by simpa using cs0
  rw [eW, eW0] at HT cs0' fz
  rw [eW0] at ew1
  clear hd h hB hg hk hkb0 hkb hsb b0 b1 bW el htm eln cs0 hdat sz0 hN
  go_enter Tryz.func202, Tryz.ntmps202
  go_wp2_with (go_at_call 173; refine HT.out.mono ?_; rintro _ u1 ⟨rfl, rfl⟩)
  rw [← ew1]
  clear HT cs0' fz eW eW0 ew1
  have hn : X.N < maxLen := by unfold maxLen; have := HK.out.2.1; omega
  obtain ⟨n0, xs, hrow, hStR, hnN⟩ := HU.out.2.1.st.row key HK.out.1
  obtain ⟨va, vc, ev⟩ := own_slice hrow
  refine wp_region_held_drew (S := fun u => u.heap[w.heap.size]? = some (.cells (bv key).toArray 38 (0, 0)) ∧ u.heap[w.heap.size + 1]? = some (.cells #[.int .i64 ((ln : Int) + 1), .slice da dn dc, .bool true] 154 (0, 0)) ∧ Db u g (X.dvf s)) (by kernel_rfl) (by exact ⟨HU.out.2.2.2.1, HU.out.2.2.2.2.1, ⟨HU.out.1.blk, HU.out.1.tag⟩⟩) ?_
  intro hS
  change wpAnyH _ _ _ _ _ 12 _ _ _
  refine wpAnyH_take (i := 0) (v := (.pointer (some ⟨g, 0, none⟩))) (by simp only [List.getElem?_toArray, List.getElem?_cons_zero]; rfl) (by kernel_rfl) (by kernel_rfl) (by kernel_rfl) (by exact fun _ _ _ h => h) (y_move (by kernel_rfl) _ rfl _ rfl) hS ?_
  try simp only [Act.put, List.setIfInBounds_toArray, List.set_cons_zero, List.set_cons_succ]
  refine wpAnyH_take (i := 1) (v := (.pointer (some ⟨g, 0, none⟩))) (by simp only [List.getElem?_toArray, List.getElem?_cons_zero, List.getElem?_cons_succ]; rfl) (by kernel_rfl) (by kernel_rfl) (by kernel_rfl) (by exact fun _ _ _ h => h) (y_nil (by kernel_rfl) _ rfl _ rfl) hS ?_
  try simp only [Act.put, List.setIfInBounds_toArray, List.set_cons_zero, List.set_cons_succ]
  refine wpAnyH_take (i := 2) (v := (.pointer (some ⟨g, 0 + 41, none⟩))) (by simp only [List.getElem?_toArray, List.getElem?_cons_zero, List.getElem?_cons_succ]; rfl) (by kernel_rfl) (by kernel_rfl) (by kernel_rfl) (by exact fun _ _ _ h => h) (y_f_Dev9 (by kernel_rfl) _ rfl _ _ rfl) hS ?_
  try simp only [Act.put, List.setIfInBounds_toArray, List.set_cons_zero, List.set_cons_succ]
  refine wpAnyH_take (i := 3) (v := (.map (some X.m3))) (by simp only [List.getElem?_toArray, List.getElem?_cons_zero, List.getElem?_cons_succ]; rfl) (by kernel_rfl) (by kernel_rfl) (by kernel_rfl) (by exact fun _ _ _ h => h) (y_l_ms (by kernel_rfl) _ rfl _ _ rfl _ (fun u hs => (hs.2.2).at_.2.2.2.2.2.2.2.2.2.1)) hS ?_
  try simp only [Act.put, List.setIfInBounds_toArray, List.set_cons_zero, List.set_cons_succ]
  refine wpAnyH_take (i := 4) (v := (.agg (bv key).toArray)) (by simp only [List.getElem?_toArray, List.getElem?_cons_zero, List.getElem?_cons_succ]; rfl) (by kernel_rfl) (by kernel_rfl) (by kernel_rfl) (by exact fun _ _ _ h => h) (y_s_Hash (by kernel_rfl) _ rfl _ _ rfl key HK.out.1.1 (fun u hs => blk_rng hs.1)) hS ?_
  try simp only [Act.put, List.setIfInBounds_toArray, List.set_cons_zero, List.set_cons_succ]
  refine wpAnyH_take (i := 5) (v := (.agg ([.int .i64 ((ln : Int) + 1), .slice da dn dc, .bool true]).toArray)) (by simp only [List.getElem?_toArray, List.getElem?_cons_zero, List.getElem?_cons_succ]; rfl) (by kernel_rfl) (by kernel_rfl) (by kernel_rfl) (by exact fun _ _ _ h => h) (y_s_Sty (by kernel_rfl) _ rfl _ _ rfl ([.int .i64 ((ln : Int) + 1), .slice da dn dc, .bool true]) i93 (fun u hs => blk_rng (cs := [.int .i64 ((ln : Int) + 1), .slice da dn dc, .bool true]) hs.2.1)) hS ?_
  try simp only [Act.put, List.setIfInBounds_toArray, List.set_cons_zero, List.set_cons_succ]
  refine wpAnyH_ready (rs := [6]) (by kernel_rfl) (by simp) ?_
  refine AllReadyH.cons (by simp only [List.getElem?_toArray, List.getElem?_cons_zero, List.getElem?_cons_succ]; rfl) (fun K hK => ?_) AllReadyH.nil
  refine r_one_stays (by kernel_rfl) _ rfl (.agg [.int .i64 ((ln : Int) + 1), .slice da dn dc, .bool true].toArray) [.int .i64 ((ln : Int) + 1), .slice da dn dc, .bool true] rfl rfl rfl ?_
  have bA : Below w1.heap.size w1 (w1.drew.alloc (.cells [.int .i64 ((ln : Int) + 1), .slice da dn dc, .bool true].toArray 154)) := ((Below.refl w1.heap.size w1).drew).alloc (Nat.le_refl _) _
  have hDr1 := HU.out.2.1.keep bA
  have hDb1 := HU.out.1.keep bA
  have hrow1 := own_off hrow (Turn.of_below (F := fun _ => False) bA) (Off.none _ _)
  have hSt1 : StR X.E s.sta _ key n0 xs := hStR.off (Turn.of_below (F := fun _ => False) bA) (Off.none _ _)
  have hdat1 : Dat _ X.E (.slice da dn dc) x := HU.out.2.2.1.off (G := fun _ => False) (Turn.of_below bA) (Off.none _ _)
  have hrg1 : (w1.drew.alloc (.cells [.int .i64 ((ln : Int) + 1), .slice da dn dc, .bool true].toArray 154)).rangeAt w1.drew.heap.size 0 [.int .i64 ((ln : Int) + 1), .slice da dn dc, .bool true] := rng_new _ _ _
  have hT1 : Turn F w (w1.drew.alloc (.cells [.int .i64 ((ln : Int) + 1), .slice da dn dc, .bool true].toArray 154)) := Turn.of_below (HU.out.2.2.2.2.2.trans (bA.mono HU.out.2.2.2.2.2.size))
  have hsz1 : w.heap.size + 1 < w1.drew.heap.size := (Array.getElem?_eq_some_iff.1 HU.out.2.2.2.2.1).1
  replace hS := (⟨(bA.block _ (Array.getElem?_eq_some_iff.1 HU.out.2.2.2.1).1).trans HU.out.2.2.2.1, (bA.block _ (Array.getElem?_eq_some_iff.1 HU.out.2.2.2.2.1).1).trans HU.out.2.2.2.2.1, hDb1⟩ : (w1.drew.alloc (.cells [.int .i64 ((ln : Int) + 1), .slice da dn dc, .bool true].toArray 154)).heap[w.heap.size]? = some (.cells (bv key).toArray 38 (0, 0)) ∧ (w1.drew.alloc (.cells [.int .i64 ((ln : Int) + 1), .slice da dn dc, .bool true].toArray 154)).heap[w.heap.size + 1]? = some (.cells #[.int .i64 ((ln : Int) + 1), .slice da dn dc, .bool true] 154 (0, 0)) ∧ Db (w1.drew.alloc (.cells [.int .i64 ((ln : Int) + 1), .slice da dn dc, .bool true].toArray 154)) g (X.dvf s))
  refine hK.out _ _ hS (fun _ => ?_)
  generalize w1.drew.heap.size = b1 at hrg1 hsz1 ⊢
  generalize w1.drew.alloc (.cells [.int .i64 ((ln : Int) + 1), .slice da dn dc, .bool true].toArray 154) = u1 at hS hDr1 hDb1 hrow1 hSt1 hdat1 hrg1 hT1 ⊢
  clear hK K
  try simp only [Act.put, List.setIfInBounds_toArray, List.set_cons_zero, List.set_cons_succ]
  refine wpAnyH_ready (rs := [7]) (by kernel_rfl) (by simp) ?_
  refine AllReadyH.cons (by simp only [List.getElem?_toArray, List.getElem?_cons_zero, List.getElem?_cons_succ]; rfl) (fun K hK => ?_) AllReadyH.nil
  obtain ⟨st, u2, es1, c1, hr2, t2, hm2, hst⟩ := hDr1.st.mh.entry hn Tryz.underlying121 zeroMs HK.out.1
  rw [ev] at hr2
  refine r_entry (by kernel_rfl) _ _ _ rfl _ _ _ u2 rfl rfl hr2 ?_
  have hm3lt : X.m3 < w.heap.size := HM3.out
  have hS2 := (⟨t2.at_new hS.1 (by omega), t2.at_new hS.2.1 (by omega), hDb1.turn t2 (fun e => hDb1.neM hDr1.st.mh.map e)⟩ : u2.heap[w.heap.size]? = some (.cells (bv key).toArray 38 (0, 0)) ∧ u2.heap[w.heap.size + 1]? = some (.cells #[.int .i64 ((ln : Int) + 1), .slice da dn dc, .bool true] 154 (0, 0)) ∧ Db u2 g (X.dvf s))
  refine hK.out _ _ hS2 (fun hS => ?_)
  clear hK K
  try simp only [Act.put, List.setIfInBounds_toArray, List.set_cons_zero, List.set_cons_succ]
  refine wpAnyH_take (i := 8) (v := (.slice va n0 vc)) (by simp only [List.getElem?_toArray, List.getElem?_cons_zero, List.getElem?_cons_succ]; rfl) (by kernel_rfl) (by kernel_rfl) (by kernel_rfl) (by exact fun _ _ _ h => h) (y_ext (by kernel_rfl) _ _ rfl _ _ rfl rfl) hS ?_
  try simp only [Act.put, List.setIfInBounds_toArray, List.set_cons_zero, List.set_cons_succ]
  refine wpAnyH_take (i := 10) (v := (goInt st)) (by simp only [List.getElem?_toArray, List.getElem?_cons_zero, List.getElem?_cons_succ]; rfl) (by kernel_rfl) (by kernel_rfl) (by kernel_rfl) (by exact fun _ _ _ h => h) (y_ext (by kernel_rfl) _ _ rfl _ _ rfl rfl) hS ?_
  try simp only [Act.put, List.setIfInBounds_toArray, List.set_cons_zero, List.set_cons_succ]
  refine wpAnyH_ready (rs := [9]) (by kernel_rfl) (by simp) ?_
  refine AllReadyH.cons (by simp only [List.getElem?_toArray, List.getElem?_cons_zero, List.getElem?_cons_succ]; rfl) (fun K hK => ?_) AllReadyH.nil
  have hrow2 : u2.ownsRow 0 154 3 (.slice va n0 vc) n0 xs := by rw [← ev]; exact own_off hrow1 t2 (Off.map hDr1.st.mh.map _)
  refine r_app_stays (by kernel_rfl) _ _ rfl (.slice va n0 vc) n0 xs rfl hrow2 b1 [.int .i64 ((ln : Int) + 1), .slice da dn dc, .bool true] rfl rfl (rng_same hrg1 (t2.block b1 (rng_lt hrg1 (by simp)) (by omega))) (fun u hu => by
    simp only [List.mem_cons, List.not_mem_nil, or_false] at hu
    rcases hu with rfl | rfl | rfl <;> rfl) (by have := HK.out.2.1; omega) ?_
  intro v' u3 own3 gr3 at3
  have gr3' : u2.grownBy u3 (X.V3 key).ownBlock := by rw [ev]; exact gr3
  have hv3lt : ∀ b, (X.V3 key).ownBlock = some b → b < w.heap.size := HV3.out
  have t3 : Turn (fun i => (X.V3 key).ownBlock = some i) u2 u3 := Turn.of_grown gr3' (fun _ e => e)
  have hDb2 := hS.2.2
  have hS3 := (⟨t3.at_new hS.1 (fun e => by have := hv3lt _ e; omega), t3.at_new hS.2.1 (fun e => by have := hv3lt _ e; omega), hDb2.turn t3 (fun e => own_ne_cells hrow2 hDb2.blk (by decide) (ev ▸ e))⟩ : u3.heap[w.heap.size]? = some (.cells (bv key).toArray 38 (0, 0)) ∧ u3.heap[w.heap.size + 1]? = some (.cells #[.int .i64 ((ln : Int) + 1), .slice da dn dc, .bool true] 154 (0, 0)) ∧ Db u3 g (X.dvf s))
  obtain ⟨wa, wc, ew⟩ := own_slice own3
  refine hK.out _ _ hS3 (fun hS => ?_)
  subst ew
  clear hK K
  try simp only [Act.put, List.setIfInBounds_toArray, List.set_cons_zero, List.set_cons_succ]
  refine wpAnyH_ready (rs := [11]) (by kernel_rfl) (by simp) ?_
  refine AllReadyH.cons (by simp only [List.getElem?_toArray, List.getElem?_cons_zero, List.getElem?_cons_succ]; rfl) (fun K hK => ?_) AllReadyH.nil
  have hm3 : u3.heap[X.m3]? = some (.map es1 c1) := (t3.block _ (Array.getElem?_eq_some_iff.1 hm2).1 (fun e => by
    obtain ⟨cur, hc⟩ := own_block hrow2 (ev ▸ e)
    rw [hm2] at hc
    cases hc)).trans hm2
  obtain ⟨u4, hr4, hMh, t4⟩ := hst u3 (.slice wa (n0 + 1) wc) hm3
  refine r_estore (by kernel_rfl) _ _ _ _ rfl _ _ _ u4 rfl rfl rfl hr4 ?_
  have own4 : u4.ownsRow 0 154 3 (.slice wa (n0 + 1) wc) (n0 + 1) (xs ++ [.int .i64 ((ln : Int) + 1), .slice da dn dc, .bool true]) := own_off own3 t4 (fun b cs fz hb q => by subst q; rw [hm3] at hb; cases hb)
  have tt : Turn (fun i => i = X.m3 ∨ (X.V3 key).ownBlock = some i) u1 u4 := ((t2.mono (fun i q => Or.inl (Or.inl q))).trans t3 (fun i q => Or.inl (Or.inr q))).trans t4 (fun i q => Or.inl (Or.inl q))
  have hsz12 : u1.heap.size ≤ u2.heap.size := t2.size
  obtain rfl : n0 = (s.sta key).length := hSt1.1
  have hDr4 := hDr1.stay (x := ⟨(ln : Int) + 1, x, true⟩) (fun i hi => HF.out.1 i (Nat.le_trans hT1.size hi)) HK.out.1 hSt1 hdat1 (by rw [HK.out.2.2]) hnN (by have := HK.out.2.1; omega) own4 tt (by
    rcases at3 with e | e
    · exact Or.inl (by rw [ev]; exact e)
    · exact Or.inr ⟨_, e, hsz12⟩) hMh
  have hDb3 := hS.2.2
  have hS4 := (⟨t4.at_new hS.1 (by omega), t4.at_new hS.2.1 (by omega), hDb3.turn t4 (fun e => hDb1.neM hDr1.st.mh.map e)⟩ : u4.heap[w.heap.size]? = some (.cells (bv key).toArray 38 (0, 0)) ∧ u4.heap[w.heap.size + 1]? = some (.cells #[.int .i64 ((ln : Int) + 1), .slice da dn dc, .bool true] 154 (0, 0)) ∧ Db u4 g (X.dvf s))
  have hT4 : Turn F w u4 := hT1.trans tt (fun i q => by
    rcases q with q | q
    · exact Or.inl (q ▸ hDr1.mf.2.2)
    · exact Or.inl (hDr1.st.foot key i HK.out.1 q))
  have hdat4 : Dat u4 X.E (.slice da dn dc) x := hdat1.off tt ((Off.map hDr1.st.mh.map _).or (Off.row hrow1 (by decide)))
  obtain ⟨D4, eD4⟩ : ∃ D, D = X.D3.put (klit key) (.held (.slice wa ((s.sta key).length + 1) wc)) := ⟨_, rfl⟩
  rw [← eD4] at hDr4
  have HV : Hid (Db u4 g ({ X with D3 := D4, V3 := fun k' => if k' = key then .slice wa ((s.sta key).length + 1) wc else X.V3 k', N := X.N + 1 }.dvf { s with sta := fun k' => if k' = key then s.sta key ++ [Sty.mk ((ln : Int) + 1) x true] else s.sta k' }) ∧ Dr u4 F { s with sta := fun k' => if k' = key then s.sta key ++ [Sty.mk ((ln : Int) + 1) x true] else s.sta k' } { X with D3 := D4, V3 := fun k' => if k' = key then .slice wa ((s.sta key).length + 1) wc else X.V3 k', N := X.N + 1 } ∧ Dat u4 X.E (.slice da dn dc) x ∧ u4.heap[w.heap.size]? = some (.cells (bv key).toArray 38 (0, 0)) ∧ u4.heap[w.heap.size + 1]? = some (.cells #[.int .i64 ((ln : Int) + 1), .slice da dn dc, .bool true] 154 (0, 0)) ∧ Turn F w u4) := ⟨hS4.2.2, hDr4, hdat4, hS4.1, hS4.2.1, hT4⟩
  refine hK.out _ _ hS4 (fun _ => ?_)
  clear hS hS4 hDr4 hDb3 hT4 hdat4 own4 tt t4 hMh hr4 hm3 hst hm2 t2 t3 hS3 hDb2 own3 gr3 gr3' at3 hrow2 hr2 hS2 hDr1 hDb1 hrow1 hSt1 hdat1 hrg1 hT1 hrow hStR hsz1 hsz12
  clear hK K
  try simp only [Act.put]
  refine wpAnyH_done (by kernel_rfl) ?_ _
  clear HU hnN
  obtain ⟨X2, eX2⟩ : ∃ Y : Dx, Y = { X with D3 := D4, V3 := fun k' => if k' = key then .slice wa ((s.sta key).length + 1) wc else X.V3 k', N := X.N + 1 } := ⟨_, rfl⟩
  obtain ⟨s2, es2⟩ : ∃ Y : Dst, Y = { s with sta := fun k' => if k' = key then s.sta key ++ [Sty.mk ((ln : Int) + 1) x true] else s.sta k' } := ⟨_, rfl⟩
  rw [← eX2, ← es2] at HV
  have HX2 : Hid (X2.N = X.N + 1 ∧ X2.E = X.E ∧ X2.lg = X.lg ∧ s2 = { s with sta := fun k' => if k' = key then s.sta key ++ [Sty.mk ((ln : Int) + 1) x true] else s.sta k' } ∧ X2.tc = X.tc) := ⟨by rw [eX2], by rw [eX2], by rw [eX2], es2, by rw [eX2]⟩
  clear eX2 es2 HM3 HV3
  obtain ⟨ta, tb, tcc, et, _⟩ := HV.out.2.1.tcf'
  have HTC : Hid (X2.tc = .slice ta s2.tch.length tcc) := et
  have HTB : Hid (∀ b, X2.tc.ownBlock = some b → b ≠ w.heap.size ∧ b ≠ w.heap.size + 1) := fun b hb => by
    have := HTL.out b (HX2.out.2.2.2.2 ▸ hb)
    omega
  have hl32 : (bv key).length = 32 := by rw [bv_len]; exact HK.out.1.1
  have c43 : ∀ o, (u4.drew.alloc o).cell? ⟨g, 0 + 43, none⟩ = some (.slice ta s2.tch.length tcc) := fun o => by
    have := (HV.out.1.keep (((Below.refl u4.heap.size u4).drew).alloc (Nat.le_refl _) o)).at_.2.2.2.2.2.2.2.2.2.2.2
    rw [← HTC.out]
    exact this
  have c43' : u4.drew.cell? ⟨g, 0 + 43, none⟩ = some (.slice ta s2.tch.length tcc) := by
    have := HV.out.1.at_.2.2.2.2.2.2.2.2.2.2.2
    rw [← HTC.out]
    exact this
  have HC43 : Hid ((∀ o, (u4.drew.alloc o).cell? ⟨g, 0 + 43, none⟩ = some (.slice ta s2.tch.length tcc)) ∧ u4.drew.cell? ⟨g, 0 + 43, none⟩ = some (.slice ta s2.tch.length tcc)) := ⟨c43, c43'⟩
  clear c43 c43' et
  go_wp2_with fail
  refine wp_region_held_drew (S := fun u => u.heap[w.heap.size]? = some (.cells (bv key).toArray 38 (0, 0)) ∧ u.heap[w.heap.size + 1]? = some (.cells #[.int .i64 ((ln : Int) + 1), .slice da dn dc, .bool true] 154 (0, 0))) (by kernel_rfl) (by exact ⟨HV.out.2.2.2.1, HV.out.2.2.2.2.1⟩) ?_
  intro hS
  change wpAnyH _ _ _ _ _ 11 _ _ _
  refine wpAnyH_take (i := 0) (v := (.pointer (some ⟨g, 0, none⟩))) (by simp only [List.getElem?_toArray, List.getElem?_cons_zero]; rfl) (by kernel_rfl) (by kernel_rfl) (by kernel_rfl) (by exact fun _ _ _ h => h) (y_move (by kernel_rfl) _ rfl _ rfl) hS ?_
  try simp only [Act.put, List.setIfInBounds_toArray, List.set_cons_zero, List.set_cons_succ]
  refine wpAnyH_take (i := 1) (v := (.pointer (some ⟨g, 0, none⟩))) (by simp only [List.getElem?_toArray, List.getElem?_cons_zero, List.getElem?_cons_succ]; rfl) (by kernel_rfl) (by kernel_rfl) (by kernel_rfl) (by exact fun _ _ _ h => h) (y_move (by kernel_rfl) _ rfl _ rfl) hS ?_
  try simp only [Act.put, List.setIfInBounds_toArray, List.set_cons_zero, List.set_cons_succ]
  refine wpAnyH_take (i := 2) (v := (.pointer (some ⟨g, 0, none⟩))) (by simp only [List.getElem?_toArray, List.getElem?_cons_zero, List.getElem?_cons_succ]; rfl) (by kernel_rfl) (by kernel_rfl) (by kernel_rfl) (by exact fun _ _ _ h => h) (y_nil (by kernel_rfl) _ rfl _ rfl) hS ?_
  try simp only [Act.put, List.setIfInBounds_toArray, List.set_cons_zero, List.set_cons_succ]
  refine wpAnyH_take (i := 3) (v := (.pointer (some ⟨g, 0 + 43, none⟩))) (by simp only [List.getElem?_toArray, List.getElem?_cons_zero, List.getElem?_cons_succ]; rfl) (by kernel_rfl) (by kernel_rfl) (by kernel_rfl) (by exact fun _ _ _ h => h) (y_f_Dev11 (by kernel_rfl) _ rfl _ _ rfl) hS ?_
  try simp only [Act.put, List.setIfInBounds_toArray, List.set_cons_zero, List.set_cons_succ]
  refine wpAnyH_take (i := 5) (v := (.agg (bv key).toArray)) (by simp only [List.getElem?_toArray, List.getElem?_cons_zero, List.getElem?_cons_succ]; rfl) (by kernel_rfl) (by kernel_rfl) (by kernel_rfl) (by exact fun _ _ _ h => h) (y_s_Hash (by kernel_rfl) _ rfl _ _ rfl key HK.out.1.1 (fun u hs => blk_rng hs.1)) hS ?_
  try simp only [Act.put, List.setIfInBounds_toArray, List.set_cons_zero, List.set_cons_succ]
  refine wpAnyH_ready (rs := [4, 6]) (by kernel_rfl) (by simp) ?_
  refine AllReadyH.cons (by simp only [List.getElem?_toArray, List.getElem?_cons_zero, List.getElem?_cons_succ]; rfl) (fun K hK => ?_) (AllReadyH.cons (by simp only [List.getElem?_toArray, List.getElem?_cons_zero, List.getElem?_cons_succ]; rfl) (fun K hK => ?_) AllReadyH.nil)
  · refine r_yield (y_l_hs (by kernel_rfl) _ rfl _ _ rfl (.slice ta s2.tch.length tcc) (fun u hs => by rw [hs]; exact HC43.out.2)) ?_
    refine hK.out _ _ hS (fun hS => ?_)
    clear hK K
    try simp only [Act.put, List.setIfInBounds_toArray, List.set_cons_zero, List.set_cons_succ]
    refine wpAnyH_ready (rs := [6]) (by kernel_rfl) (by simp) ?_
    refine AllReadyH.cons (by simp only [List.getElem?_toArray, List.getElem?_cons_zero, List.getElem?_cons_succ]; rfl) (fun K hK => ?_) AllReadyH.nil
    refine r_one_hs (by kernel_rfl) _ rfl (.agg (bv key).toArray) (bv key) rfl rfl hl32 ?_
    refine hK.out _ _ ⟨(heap_alloc_old _ _ (Array.getElem?_eq_some_iff.1 hS.1).1).trans hS.1, (heap_alloc_old _ _ (Array.getElem?_eq_some_iff.1 hS.2).1).trans hS.2⟩ (fun hS => ?_)
    clear hK K
    try simp only [Act.put, List.setIfInBounds_toArray, List.set_cons_zero, List.set_cons_succ]
    refine wpAnyH_ready (rs := [7]) (by kernel_rfl) (by simp) ?_
    refine AllReadyH.cons (by simp only [List.getElem?_toArray, List.getElem?_cons_zero, List.getElem?_cons_succ]; rfl) (fun K hK => ?_) AllReadyH.nil
    have bA : Below u4.heap.size u4 (u4.drew.alloc (.cells (bv key).toArray 38)) := ((Below.refl u4.heap.size u4).drew).alloc (Nat.le_refl _) _
    have hDr := HV.out.2.1.keep bA
    have hDb := HV.out.1.keep bA
    have hdat5 : Dat (u4.drew.alloc (.cells (bv key).toArray 38)) X.E (.slice da dn dc) x := HV.out.2.2.1.off (G := fun _ => False) (Turn.of_below bA) (Off.none _ _)
    refine r_app_hs (by kernel_rfl) _ _ rfl (.slice ta s2.tch.length tcc) s2.tch.length (hcs s2.tch) rfl (by rw [← HTC.out]; exact hDr.tc) u4.drew.heap.size (bv key) rfl hl32 (rng_new _ _ _) (fun u hu => by
      obtain ⟨y, _, rfl⟩ := List.mem_map.1 hu
      rfl) (by have := hDr.bd.2.2; have := HX2.out.1; have := HK.out.2.1; omega) ?_
    intro v' u5 own5 gr5 at5
    have gr5' : (u4.drew.alloc (.cells (bv key).toArray 38)).grownBy u5 X2.tc.ownBlock := by rw [HTC.out]; exact gr5
    have at5' : v'.ownBlock = X2.tc.ownBlock ∨ v'.ownBlock = some (u4.drew.alloc (.cells (bv key).toArray 38)).heap.size := by rw [HTC.out]; exact at5
    have t5 : Turn (fun i => X2.tc.ownBlock = some i) (u4.drew.alloc (.cells (bv key).toArray 38)) u5 := Turn.of_grown gr5' (fun _ e => e)
    have htcl : ∀ b, X2.tc.ownBlock = some b → b ≠ w.heap.size ∧ b ≠ w.heap.size + 1 := HTB.out
    have hS5 := (⟨t5.at_new hS.1 (fun e => (htcl _ e).1 rfl), t5.at_new hS.2 (fun e => (htcl _ e).2 rfl)⟩ : u5.heap[w.heap.size]? = some (.cells (bv key).toArray 38 (0, 0)) ∧ u5.heap[w.heap.size + 1]? = some (.cells #[.int .i64 ((ln : Int) + 1), .slice da dn dc, .bool true] 154 (0, 0)))
    have hDb5 : Db u5 g (X2.dvf s2) := hDb.turn t5 (fun e => own_ne_cells hDr.tc hDb.blk (by decide) e)
    have hDr5 := hDr.touch (fun i hi => HF.out.1 i (Nat.le_trans (Nat.le_trans HV.out.2.2.2.2.2.size bA.size) hi)) HK.out.1 own5 gr5' at5'
    have hdat6 : Dat u5 X.E (.slice da dn dc) x := hdat5.off t5 (Off.row hDr.tc (by decide))
    have hT5 : Turn F w u5 := ((HV.out.2.2.2.2.2.trans (Turn.of_below (F := F) bA) (fun _ q => Or.inl q))).trans t5 (fun i e => Or.inl (hDr.tcf i e))
    obtain ⟨ua, uc, eu⟩ := own_slice own5
    subst eu
    clear own5 gr5 at5 gr5' at5'
    refine hK.out _ _ hS5 (fun hS => ?_)
    clear hK K
    try simp only [Act.put, List.setIfInBounds_toArray, List.set_cons_zero, List.set_cons_succ]
    refine wpAnyH_take (i := 8) (v := (.pointer (some ⟨g, 0, none⟩))) (by simp only [List.getElem?_toArray, List.getElem?_cons_zero, List.getElem?_cons_succ]; rfl) (by kernel_rfl) (by kernel_rfl) (by kernel_rfl) (by exact fun _ _ _ h => h) (y_nil (by kernel_rfl) _ rfl _ rfl) hS ?_
    try simp only [Act.put, List.setIfInBounds_toArray, List.set_cons_zero, List.set_cons_succ]
    refine wpAnyH_take (i := 9) (v := (.pointer (some ⟨g, 0 + 43, none⟩))) (by simp only [List.getElem?_toArray, List.getElem?_cons_zero, List.getElem?_cons_succ]; rfl) (by kernel_rfl) (by kernel_rfl) (by kernel_rfl) (by exact fun _ _ _ h => h) (y_f_Dev11 (by kernel_rfl) _ rfl _ _ rfl) hS ?_
    try simp only [Act.put, List.setIfInBounds_toArray, List.set_cons_zero, List.set_cons_succ]
    refine wpAnyH_ready (rs := [10]) (by kernel_rfl) (by simp) ?_
    refine AllReadyH.cons (by simp only [List.getElem?_toArray, List.getElem?_cons_zero, List.getElem?_cons_succ]; rfl) (fun K hK => ?_) AllReadyH.nil
    refine r_s_hs (by kernel_rfl) _ _ rfl g (0 + 43) rfl (.slice ua (s2.tch.length + 1) uc) _ rfl ⟨_, _, _, rfl⟩ hDb5.at_.2.2.2.2.2.2.2.2.2.2.2 (hDb5.frz 43) ?_
    have t6 : Turn (fun i => i = g) u5 (u5.setCell ⟨g, 0 + 43, none⟩ (.slice ua (s2.tch.length + 1) uc)) := Turn.setCell _ _ _ rfl
    have hS6 := (⟨t6.at_new hS.1 (by omega), t6.at_new hS.2 (by omega)⟩ : (u5.setCell ⟨g, 0 + 43, none⟩ (.slice ua (s2.tch.length + 1) uc)).heap[w.heap.size]? = some (.cells (bv key).toArray 38 (0, 0)) ∧ (u5.setCell ⟨g, 0 + 43, none⟩ (.slice ua (s2.tch.length + 1) uc)).heap[w.heap.size + 1]? = some (.cells #[.int .i64 ((ln : Int) + 1), .slice da dn dc, .bool true] 154 (0, 0)))
    have HV6 : Hid (Db (u5.setCell ⟨g, 0 + 43, none⟩ (.slice ua (s2.tch.length + 1) uc)) g ({ X2 with tc := (.slice ua (s2.tch.length + 1) uc), N := X2.N + 1 }.dvf { s2 with tch := s2.tch ++ [key] }) ∧ Dr (u5.setCell ⟨g, 0 + 43, none⟩ (.slice ua (s2.tch.length + 1) uc)) F { s2 with tch := s2.tch ++ [key] } { X2 with tc := (.slice ua (s2.tch.length + 1) uc), N := X2.N + 1 } ∧ Dat (u5.setCell ⟨g, 0 + 43, none⟩ (.slice ua (s2.tch.length + 1) uc)) X.E (.slice da dn dc) x ∧ (u5.setCell ⟨g, 0 + 43, none⟩ (.slice ua (s2.tch.length + 1) uc)).heap[w.heap.size]? = some (.cells (bv key).toArray 38 (0, 0)) ∧ (u5.setCell ⟨g, 0 + 43, none⟩ (.slice ua (s2.tch.length + 1) uc)).heap[w.heap.size + 1]? = some (.cells #[.int .i64 ((ln : Int) + 1), .slice da dn dc, .bool true] 154 (0, 0)) ∧ Turn F w (u5.setCell ⟨g, 0 + 43, none⟩ (.slice ua (s2.tch.length + 1) uc))) :=
      ⟨hDb5.setTc _, hDr5.self hDb5 t6, hdat6.off t6 (Off.db hDb5 (by decide)), hS6.1, hS6.2, hT5.trans t6 (fun i e => Or.inl (by show F i; rw [e]; exact HF.out.2))⟩
    refine hK.out _ _ hS6 (fun _ => ?_)
    clear hS hS6 t6 hDb5 hDr5 hdat6 hT5 hS5 t5 hDb hDr bA
    clear hK K
    try simp only [Act.put]
    refine wpAnyH_done (by kernel_rfl) ?_ _
    clear HC43 HV HTC
    revert HV6
    generalize u5.setCell ⟨g, 0 + 43, none⟩ (.slice ua (s2.tch.length + 1) uc) = u7
    intro HV6
    have cB : u7.cell? ⟨w.heap.size + 1, 2, none⟩ = some (.bool true) := (blk_rng (cs := [.int .i64 ((ln : Int) + 1), .slice da dn dc, .bool true]) HV6.out.2.2.2.2.1) 2 _ rfl
    go_wp2_with fail
    refine wp_region_held_drew (S := fun u => u.heap[w.heap.size]? = some (.cells (bv key).toArray 38 (0, 0)) ∧ u.heap[w.heap.size + 1]? = some (.cells #[.int .i64 ((ln : Int) + 1), .slice da dn dc, .bool true] 154 (0, 0)) ∧ Db u g ({ X2 with tc := (.slice ua (s2.tch.length + 1) uc), N := X2.N + 1 }.dvf { s2 with tch := s2.tch ++ [key] })) (by kernel_rfl) (by exact ⟨HV6.out.2.2.2.1, HV6.out.2.2.2.2.1, ⟨HV6.out.1.blk, HV6.out.1.tag⟩⟩) ?_
    intro hS
    change wpAnyH _ _ _ _ _ 8 _ _ _
    refine wpAnyH_take (i := 0) (v := (.pointer (some ⟨g, 0, none⟩))) (by simp only [List.getElem?_toArray, List.getElem?_cons_zero]; rfl) (by kernel_rfl) (by kernel_rfl) (by kernel_rfl) (by exact fun _ _ _ h => h) (y_move (by kernel_rfl) _ rfl _ rfl) hS ?_
    try simp only [Act.put, List.setIfInBounds_toArray, List.set_cons_zero, List.set_cons_succ]
    refine wpAnyH_take (i := 1) (v := (.pointer (some ⟨g, 0, none⟩))) (by simp only [List.getElem?_toArray, List.getElem?_cons_zero, List.getElem?_cons_succ]; rfl) (by kernel_rfl) (by kernel_rfl) (by kernel_rfl) (by exact fun _ _ _ h => h) (y_nil (by kernel_rfl) _ rfl _ rfl) hS ?_
    try simp only [Act.put, List.setIfInBounds_toArray, List.set_cons_zero, List.set_cons_succ]
    refine wpAnyH_take (i := 2) (v := (.pointer (some ⟨g, 0 + 2, none⟩))) (by simp only [List.getElem?_toArray, List.getElem?_cons_zero, List.getElem?_cons_succ]; rfl) (by kernel_rfl) (by kernel_rfl) (by kernel_rfl) (by exact fun _ _ _ h => h) (y_f_Dev2 (by kernel_rfl) _ rfl _ _ rfl) hS ?_
    try simp only [Act.put, List.setIfInBounds_toArray, List.set_cons_zero, List.set_cons_succ]
    refine wpAnyH_take (i := 3) (v := (.map (some X2.m1))) (by simp only [List.getElem?_toArray, List.getElem?_cons_zero, List.getElem?_cons_succ]; rfl) (by kernel_rfl) (by kernel_rfl) (by kernel_rfl) (by exact fun _ _ _ h => h) (y_l_mb (by kernel_rfl) _ rfl _ _ rfl _ (fun u hs => (hs.2.2).at_.2.2.1)) hS ?_
    try simp only [Act.put, List.setIfInBounds_toArray, List.set_cons_zero, List.set_cons_succ]
    refine wpAnyH_take (i := 4) (v := (.agg (bv key).toArray)) (by simp only [List.getElem?_toArray, List.getElem?_cons_zero, List.getElem?_cons_succ]; rfl) (by kernel_rfl) (by kernel_rfl) (by kernel_rfl) (by exact fun _ _ _ h => h) (y_s_Hash (by kernel_rfl) _ rfl _ _ rfl key HK.out.1.1 (fun u hs => blk_rng hs.1)) hS ?_
    try simp only [Act.put, List.setIfInBounds_toArray, List.set_cons_zero, List.set_cons_succ]
    refine wpAnyH_take (i := 5) (v := (.pointer (some ⟨w.heap.size + 1, 0 + 1, none⟩))) (by simp only [List.getElem?_toArray, List.getElem?_cons_zero, List.getElem?_cons_succ]; rfl) (by kernel_rfl) (by kernel_rfl) (by kernel_rfl) (by exact fun _ _ _ h => h) (y_f_Sty1 (by kernel_rfl) _ rfl _ _ rfl) hS ?_
    try simp only [Act.put, List.setIfInBounds_toArray, List.set_cons_zero, List.set_cons_succ]
    refine wpAnyH_take (i := 6) (v := (.slice da dn dc)) (by simp only [List.getElem?_toArray, List.getElem?_cons_zero, List.getElem?_cons_succ]; rfl) (by kernel_rfl) (by kernel_rfl) (by kernel_rfl) (by exact fun _ _ _ h => h) (y_l_byt (by kernel_rfl) _ rfl _ _ rfl _ (fun u hs => (blk_rng (cs := [.int .i64 ((ln : Int) + 1), .slice da dn dc, .bool true]) hs.2.1) 1 _ rfl)) hS ?_
    try simp only [Act.put, List.setIfInBounds_toArray, List.set_cons_zero, List.set_cons_succ]
    refine wpAnyH_ready (rs := [7]) (by kernel_rfl) (by simp) ?_
    refine AllReadyH.cons (by simp only [List.getElem?_toArray, List.getElem?_cons_zero, List.getElem?_cons_succ]; rfl) (fun K hK => ?_) AllReadyH.nil
    have bD : Below u7.heap.size u7 u7.drew := (Below.refl _ _).drew
    have hDr7 := HV6.out.2.1.keep bD
    have hdat7 : Dat u7.drew X2.E (.slice da dn dc) x := by
      rw [HX2.out.2.1]
      exact HV6.out.2.2.1.off (G := fun _ => False) (Turn.of_below bD) (Off.none _ _)
    obtain ⟨u8, hr8, hDr8, t8⟩ := hDr7.blob (by unfold maxLen; have := HX2.out.1; have := HK.out.2.1; show X2.N + 1 < _; omega) Tryz.underlying97 HK.out.1 hdat7
    refine r_update (by kernel_rfl) _ _ _ _ rfl _ _ _ u8 rfl rfl rfl hr8 ?_
    have hm1lt : X2.m1 ≠ w.heap.size ∧ X2.m1 ≠ w.heap.size + 1 ∧ g ≠ X2.m1 := ⟨fun e => by
        obtain ⟨es, ck, q, _⟩ := hDr7.bl.mh.map
        have q2 := hS.1
        rw [← e] at q2
        exact absurd (q.symm.trans q2) (by simp), fun e => by
        obtain ⟨es, ck, q, _⟩ := hDr7.bl.mh.map
        have q2 := hS.2.1
        rw [← e] at q2
        exact absurd (q.symm.trans q2) (by simp), hS.2.2.neM hDr7.bl.mh.map⟩
    have hS8 := (⟨t8.at_new hS.1 (fun e => hm1lt.1 e.symm), t8.at_new hS.2.1 (fun e => hm1lt.2.1 e.symm), hS.2.2.turn t8 (fun e => hm1lt.2.2 e)⟩ : u8.heap[w.heap.size]? = some (.cells (bv key).toArray 38 (0, 0)) ∧ u8.heap[w.heap.size + 1]? = some (.cells #[.int .i64 ((ln : Int) + 1), .slice da dn dc, .bool true] 154 (0, 0)) ∧ Db u8 g ({ X2 with tc := (.slice ua (s2.tch.length + 1) uc), N := X2.N + 1 }.dvf { s2 with tch := s2.tch ++ [key] }))
    have hT8 : Turn F w u8 := (HV6.out.2.2.2.2.2.trans (Turn.of_below (F := F) bD) (fun _ q => Or.inl q)).trans t8 (fun i e => Or.inl (by show F i; rw [e]; exact hDr7.mf.1))
    have HV8 : Hid (_ ∧ Dr u8 F _ _ ∧ Turn F w u8) := ⟨hS8.2.2, hDr8, hT8⟩
    refine hK.out _ _ hS8 (fun _ => ?_)
    clear hS hS8 hDr7 hdat7 t8 hm1lt hDr8 hT8 bD hr8
    clear hK K
    try simp only [Act.put]
    refine wpAnyH_done (by kernel_rfl) ?_ _
    clear cB
    go_wp2_with fail
    have es : layS s key x = { s2 with tch := s2.tch ++ [key], bl := fun k' => if k' = key then some x else s2.bl k', cnt := if (s2.bl key).isSome then s2.cnt else s2.cnt + 1 } := by
      rw [HX2.out.2.2.2.1, HK.out.2.2]
      rfl
    have fin : ∃ X' : Dx, Db u8 g (X'.dvf (layS s key x)) ∧ Dr u8 F (layS s key x) X' ∧ X'.N ≤ X.N + 3 ∧ X'.E = X.E ∧ X'.lg = X.lg ∧ Turn F w u8 := by
      rw [es]
      exact Exists.intro { X2 with tc := .slice ua (s2.tch.length + 1) uc, D1 := X2.D1.put (klit key) (.held (.slice da dn dc)), V1 := fun k' => if k' = key then .slice da dn dc else X2.V1 k', N := X2.N + 1 + 1 } ⟨HV8.out.1, HV8.out.2.1, (by show X2.N + 1 + 1 ≤ X.N + 3; have := HX2.out.1; omega), HX2.out.2.1, HX2.out.2.2.1, HV8.out.2.2⟩
    
    exact bodyPost_end (results_none rfl _ _ _) rfl ⟨⟨_, rfl⟩, fin⟩
  · refine r_one_hs (by kernel_rfl) _ rfl (.agg (bv key).toArray) (bv key) rfl rfl hl32 ?_
    refine hK.out _ _ ⟨(heap_alloc_old _ _ (Array.getElem?_eq_some_iff.1 hS.1).1).trans hS.1, (heap_alloc_old _ _ (Array.getElem?_eq_some_iff.1 hS.2).1).trans hS.2⟩ (fun hS => ?_)
    clear hK K
    try simp only [Act.put, List.setIfInBounds_toArray, List.set_cons_zero, List.set_cons_succ]
    refine wpAnyH_ready (rs := [4]) (by kernel_rfl) (by simp) ?_
    refine AllReadyH.cons (by simp only [List.getElem?_toArray, List.getElem?_cons_zero, List.getElem?_cons_succ]; rfl) (fun K hK => ?_) AllReadyH.nil
    refine r_yield (y_l_hs (by kernel_rfl) _ rfl _ _ rfl (.slice ta s2.tch.length tcc) (fun u hs => by rw [hs]; exact HC43.out.1 _)) ?_
    refine hK.out _ _ hS (fun hS => ?_)
    clear hK K
    try simp only [Act.put, List.setIfInBounds_toArray, List.set_cons_zero, List.set_cons_succ]
    refine wpAnyH_ready (rs := [7]) (by kernel_rfl) (by simp) ?_
    refine AllReadyH.cons (by simp only [List.getElem?_toArray, List.getElem?_cons_zero, List.getElem?_cons_succ]; rfl) (fun K hK => ?_) AllReadyH.nil
    have bA : Below u4.heap.size u4 (u4.drew.alloc (.cells (bv key).toArray 38)) := ((Below.refl u4.heap.size u4).drew).alloc (Nat.le_refl _) _
    have hDr := HV.out.2.1.keep bA
    have hDb := HV.out.1.keep bA
    have hdat5 : Dat (u4.drew.alloc (.cells (bv key).toArray 38)) X.E (.slice da dn dc) x := HV.out.2.2.1.off (G := fun _ => False) (Turn.of_below bA) (Off.none _ _)
    refine r_app_hs (by kernel_rfl) _ _ rfl (.slice ta s2.tch.length tcc) s2.tch.length (hcs s2.tch) rfl (by rw [← HTC.out]; exact hDr.tc) u4.drew.heap.size (bv key) rfl hl32 (rng_new _ _ _) (fun u hu => by
      obtain ⟨y, _, rfl⟩ := List.mem_map.1 hu
      rfl) (by have := hDr.bd.2.2; have := HX2.out.1; have := HK.out.2.1; omega) ?_
    intro v' u5 own5 gr5 at5
    have gr5' : (u4.drew.alloc (.cells (bv key).toArray 38)).grownBy u5 X2.tc.ownBlock := by rw [HTC.out]; exact gr5
    have at5' : v'.ownBlock = X2.tc.ownBlock ∨ v'.ownBlock = some (u4.drew.alloc (.cells (bv key).toArray 38)).heap.size := by rw [HTC.out]; exact at5
    have t5 : Turn (fun i => X2.tc.ownBlock = some i) (u4.drew.alloc (.cells (bv key).toArray 38)) u5 := Turn.of_grown gr5' (fun _ e => e)
    have htcl : ∀ b, X2.tc.ownBlock = some b → b ≠ w.heap.size ∧ b ≠ w.heap.size + 1 := HTB.out
    have hS5 := (⟨t5.at_new hS.1 (fun e => (htcl _ e).1 rfl), t5.at_new hS.2 (fun e => (htcl _ e).2 rfl)⟩ : u5.heap[w.heap.size]? = some (.cells (bv key).toArray 38 (0, 0)) ∧ u5.heap[w.heap.size + 1]? = some (.cells #[.int .i64 ((ln : Int) + 1), .slice da dn dc, .bool true] 154 (0, 0)))
    have hDb5 : Db u5 g (X2.dvf s2) := hDb.turn t5 (fun e => own_ne_cells hDr.tc hDb.blk (by decide) e)
    have hDr5 := hDr.touch (fun i hi => HF.out.1 i (Nat.le_trans (Nat.le_trans HV.out.2.2.2.2.2.size bA.size) hi)) HK.out.1 own5 gr5' at5'
    have hdat6 : Dat u5 X.E (.slice da dn dc) x := hdat5.off t5 (Off.row hDr.tc (by decide))
    have hT5 : Turn F w u5 := ((HV.out.2.2.2.2.2.trans (Turn.of_below (F := F) bA) (fun _ q => Or.inl q))).trans t5 (fun i e => Or.inl (hDr.tcf i e))
    obtain ⟨ua, uc, eu⟩ := own_slice own5
    subst eu
    clear own5 gr5 at5 gr5' at5'
    refine hK.out _ _ hS5 (fun hS => ?_)
    clear hK K
    try simp only [Act.put, List.setIfInBounds_toArray, List.set_cons_zero, List.set_cons_succ]
    refine wpAnyH_take (i := 8) (v := (.pointer (some ⟨g, 0, none⟩))) (by simp only [List.getElem?_toArray, List.getElem?_cons_zero, List.getElem?_cons_succ]; rfl) (by kernel_rfl) (by kernel_rfl) (by kernel_rfl) (by exact fun _ _ _ h => h) (y_nil (by kernel_rfl) _ rfl _ rfl) hS ?_
    try simp only [Act.put, List.setIfInBounds_toArray, List.set_cons_zero, List.set_cons_succ]
    refine wpAnyH_take (i := 9) (v := (.pointer (some ⟨g, 0 + 43, none⟩))) (by simp only [List.getElem?_toArray, List.getElem?_cons_zero, List.getElem?_cons_succ]; rfl) (by kernel_rfl) (by kernel_rfl) (by kernel_rfl) (by exact fun _ _ _ h => h) (y_f_Dev11 (by kernel_rfl) _ rfl _ _ rfl) hS ?_
    try simp only [Act.put, List.setIfInBounds_toArray, List.set_cons_zero, List.set_cons_succ]
    refine wpAnyH_ready (rs := [10]) (by kernel_rfl) (by simp) ?_
    refine AllReadyH.cons (by simp only [List.getElem?_toArray, List.getElem?_cons_zero, List.getElem?_cons_succ]; rfl) (fun K hK => ?_) AllReadyH.nil
    refine r_s_hs (by kernel_rfl) _ _ rfl g (0 + 43) rfl (.slice ua (s2.tch.length + 1) uc) _ rfl ⟨_, _, _, rfl⟩ hDb5.at_.2.2.2.2.2.2.2.2.2.2.2 (hDb5.frz 43) ?_
    have t6 : Turn (fun i => i = g) u5 (u5.setCell ⟨g, 0 + 43, none⟩ (.slice ua (s2.tch.length + 1) uc)) := Turn.setCell _ _ _ rfl
    have hS6 := (⟨t6.at_new hS.1 (by omega), t6.at_new hS.2 (by omega)⟩ : (u5.setCell ⟨g, 0 + 43, none⟩ (.slice ua (s2.tch.length + 1) uc)).heap[w.heap.size]? = some (.cells (bv key).toArray 38 (0, 0)) ∧ (u5.setCell ⟨g, 0 + 43, none⟩ (.slice ua (s2.tch.length + 1) uc)).heap[w.heap.size + 1]? = some (.cells #[.int .i64 ((ln : Int) + 1), .slice da dn dc, .bool true] 154 (0, 0)))
    have HV6 : Hid (Db (u5.setCell ⟨g, 0 + 43, none⟩ (.slice ua (s2.tch.length + 1) uc)) g ({ X2 with tc := (.slice ua (s2.tch.length + 1) uc), N := X2.N + 1 }.dvf { s2 with tch := s2.tch ++ [key] }) ∧ Dr (u5.setCell ⟨g, 0 + 43, none⟩ (.slice ua (s2.tch.length + 1) uc)) F { s2 with tch := s2.tch ++ [key] } { X2 with tc := (.slice ua (s2.tch.length + 1) uc), N := X2.N + 1 } ∧ Dat (u5.setCell ⟨g, 0 + 43, none⟩ (.slice ua (s2.tch.length + 1) uc)) X.E (.slice da dn dc) x ∧ (u5.setCell ⟨g, 0 + 43, none⟩ (.slice ua (s2.tch.length + 1) uc)).heap[w.heap.size]? = some (.cells (bv key).toArray 38 (0, 0)) ∧ (u5.setCell ⟨g, 0 + 43, none⟩ (.slice ua (s2.tch.length + 1) uc)).heap[w.heap.size + 1]? = some (.cells #[.int .i64 ((ln : Int) + 1), .slice da dn dc, .bool true] 154 (0, 0)) ∧ Turn F w (u5.setCell ⟨g, 0 + 43, none⟩ (.slice ua (s2.tch.length + 1) uc))) :=
      ⟨hDb5.setTc _, hDr5.self hDb5 t6, hdat6.off t6 (Off.db hDb5 (by decide)), hS6.1, hS6.2, hT5.trans t6 (fun i e => Or.inl (by show F i; rw [e]; exact HF.out.2))⟩
    refine hK.out _ _ hS6 (fun _ => ?_)
    clear hS hS6 t6 hDb5 hDr5 hdat6 hT5 hS5 t5 hDb hDr bA
    clear hK K
    try simp only [Act.put]
    refine wpAnyH_done (by kernel_rfl) ?_ _
    clear HC43 HV HTC
    revert HV6
    generalize u5.setCell ⟨g, 0 + 43, none⟩ (.slice ua (s2.tch.length + 1) uc) = u7
    intro HV6
    have cB : u7.cell? ⟨w.heap.size + 1, 2, none⟩ = some (.bool true) := (blk_rng (cs := [.int .i64 ((ln : Int) + 1), .slice da dn dc, .bool true]) HV6.out.2.2.2.2.1) 2 _ rfl
    go_wp2_with fail
    refine wp_region_held_drew (S := fun u => u.heap[w.heap.size]? = some (.cells (bv key).toArray 38 (0, 0)) ∧ u.heap[w.heap.size + 1]? = some (.cells #[.int .i64 ((ln : Int) + 1), .slice da dn dc, .bool true] 154 (0, 0)) ∧ Db u g ({ X2 with tc := (.slice ua (s2.tch.length + 1) uc), N := X2.N + 1 }.dvf { s2 with tch := s2.tch ++ [key] })) (by kernel_rfl) (by exact ⟨HV6.out.2.2.2.1, HV6.out.2.2.2.2.1, ⟨HV6.out.1.blk, HV6.out.1.tag⟩⟩) ?_
    intro hS
    change wpAnyH _ _ _ _ _ 8 _ _ _
    refine wpAnyH_take (i := 0) (v := (.pointer (some ⟨g, 0, none⟩))) (by simp only [List.getElem?_toArray, List.getElem?_cons_zero]; rfl) (by kernel_rfl) (by kernel_rfl) (by kernel_rfl) (by exact fun _ _ _ h => h) (y_move (by kernel_rfl) _ rfl _ rfl) hS ?_
    try simp only [Act.put, List.setIfInBounds_toArray, List.set_cons_zero, List.set_cons_succ]
    refine wpAnyH_take (i := 1) (v := (.pointer (some ⟨g, 0, none⟩))) (by simp only [List.getElem?_toArray, List.getElem?_cons_zero, List.getElem?_cons_succ]; rfl) (by kernel_rfl) (by kernel_rfl) (by kernel_rfl) (by exact fun _ _ _ h => h) (y_nil (by kernel_rfl) _ rfl _ rfl) hS ?_
    try simp only [Act.put, List.setIfInBounds_toArray, List.set_cons_zero, List.set_cons_succ]
    refine wpAnyH_take (i := 2) (v := (.pointer (some ⟨g, 0 + 2, none⟩))) (by simp only [List.getElem?_toArray, List.getElem?_cons_zero, List.getElem?_cons_succ]; rfl) (by kernel_rfl) (by kernel_rfl) (by kernel_rfl) (by exact fun _ _ _ h => h) (y_f_Dev2 (by kernel_rfl) _ rfl _ _ rfl) hS ?_
    try simp only [Act.put, List.setIfInBounds_toArray, List.set_cons_zero, List.set_cons_succ]
    refine wpAnyH_take (i := 3) (v := (.map (some X2.m1))) (by simp only [List.getElem?_toArray, List.getElem?_cons_zero, List.getElem?_cons_succ]; rfl) (by kernel_rfl) (by kernel_rfl) (by kernel_rfl) (by exact fun _ _ _ h => h) (y_l_mb (by kernel_rfl) _ rfl _ _ rfl _ (fun u hs => (hs.2.2).at_.2.2.1)) hS ?_
    try simp only [Act.put, List.setIfInBounds_toArray, List.set_cons_zero, List.set_cons_succ]
    refine wpAnyH_take (i := 4) (v := (.agg (bv key).toArray)) (by simp only [List.getElem?_toArray, List.getElem?_cons_zero, List.getElem?_cons_succ]; rfl) (by kernel_rfl) (by kernel_rfl) (by kernel_rfl) (by exact fun _ _ _ h => h) (y_s_Hash (by kernel_rfl) _ rfl _ _ rfl key HK.out.1.1 (fun u hs => blk_rng hs.1)) hS ?_
    try simp only [Act.put, List.setIfInBounds_toArray, List.set_cons_zero, List.set_cons_succ]
    refine wpAnyH_take (i := 5) (v := (.pointer (some ⟨w.heap.size + 1, 0 + 1, none⟩))) (by simp only [List.getElem?_toArray, List.getElem?_cons_zero, List.getElem?_cons_succ]; rfl) (by kernel_rfl) (by kernel_rfl) (by kernel_rfl) (by exact fun _ _ _ h => h) (y_f_Sty1 (by kernel_rfl) _ rfl _ _ rfl) hS ?_
    try simp only [Act.put, List.setIfInBounds_toArray, List.set_cons_zero, List.set_cons_succ]
    refine wpAnyH_take (i := 6) (v := (.slice da dn dc)) (by simp only [List.getElem?_toArray, List.getElem?_cons_zero, List.getElem?_cons_succ]; rfl) (by kernel_rfl) (by kernel_rfl) (by kernel_rfl) (by exact fun _ _ _ h => h) (y_l_byt (by kernel_rfl) _ rfl _ _ rfl _ (fun u hs => (blk_rng (cs := [.int .i64 ((ln : Int) + 1), .slice da dn dc, .bool true]) hs.2.1) 1 _ rfl)) hS ?_
    try simp only [Act.put, List.setIfInBounds_toArray, List.set_cons_zero, List.set_cons_succ]
    refine wpAnyH_ready (rs := [7]) (by kernel_rfl) (by simp) ?_
    refine AllReadyH.cons (by simp only [List.getElem?_toArray, List.getElem?_cons_zero, List.getElem?_cons_succ]; rfl) (fun K hK => ?_) AllReadyH.nil
    have bD : Below u7.heap.size u7 u7.drew := (Below.refl _ _).drew
    have hDr7 := HV6.out.2.1.keep bD
    have hdat7 : Dat u7.drew X2.E (.slice da dn dc) x := by
      rw [HX2.out.2.1]
      exact HV6.out.2.2.1.off (G := fun _ => False) (Turn.of_below bD) (Off.none _ _)
    obtain ⟨u8, hr8, hDr8, t8⟩ := hDr7.blob (by unfold maxLen; have := HX2.out.1; have := HK.out.2.1; show X2.N + 1 < _; omega) Tryz.underlying97 HK.out.1 hdat7
    refine r_update (by kernel_rfl) _ _ _ _ rfl _ _ _ u8 rfl rfl rfl hr8 ?_
    have hm1lt : X2.m1 ≠ w.heap.size ∧ X2.m1 ≠ w.heap.size + 1 ∧ g ≠ X2.m1 := ⟨fun e => by
        obtain ⟨es, ck, q, _⟩ := hDr7.bl.mh.map
        have q2 := hS.1
        rw [← e] at q2
        exact absurd (q.symm.trans q2) (by simp), fun e => by
        obtain ⟨es, ck, q, _⟩ := hDr7.bl.mh.map
        have q2 := hS.2.1
        rw [← e] at q2
        exact absurd (q.symm.trans q2) (by simp), hS.2.2.neM hDr7.bl.mh.map⟩
    have hS8 := (⟨t8.at_new hS.1 (fun e => hm1lt.1 e.symm), t8.at_new hS.2.1 (fun e => hm1lt.2.1 e.symm), hS.2.2.turn t8 (fun e => hm1lt.2.2 e)⟩ : u8.heap[w.heap.size]? = some (.cells (bv key).toArray 38 (0, 0)) ∧ u8.heap[w.heap.size + 1]? = some (.cells #[.int .i64 ((ln : Int) + 1), .slice da dn dc, .bool true] 154 (0, 0)) ∧ Db u8 g ({ X2 with tc := (.slice ua (s2.tch.length + 1) uc), N := X2.N + 1 }.dvf { s2 with tch := s2.tch ++ [key] }))
    have hT8 : Turn F w u8 := (HV6.out.2.2.2.2.2.trans (Turn.of_below (F := F) bD) (fun _ q => Or.inl q)).trans t8 (fun i e => Or.inl (by show F i; rw [e]; exact hDr7.mf.1))
    have HV8 : Hid (_ ∧ Dr u8 F _ _ ∧ Turn F w u8) := ⟨hS8.2.2, hDr8, hT8⟩
    refine hK.out _ _ hS8 (fun _ => ?_)
    clear hS hS8 hDr7 hdat7 t8 hm1lt hDr8 hT8 bD hr8
    clear hK K
    try simp only [Act.put]
    refine wpAnyH_done (by kernel_rfl) ?_ _
    clear cB
    go_wp2_with fail
    have es : layS s key x = { s2 with tch := s2.tch ++ [key], bl := fun k' => if k' = key then some x else s2.bl k', cnt := if (s2.bl key).isSome then s2.cnt else s2.cnt + 1 } := by
      rw [HX2.out.2.2.2.1, HK.out.2.2]
      rfl
    have fin : ∃ X' : Dx, Db u8 g (X'.dvf (layS s key x)) ∧ Dr u8 F (layS s key x) X' ∧ X'.N ≤ X.N + 3 ∧ X'.E = X.E ∧ X'.lg = X.lg ∧ Turn F w u8 := by
      rw [es]
      exact Exists.intro { X2 with tc := .slice ua (s2.tch.length + 1) uc, D1 := X2.D1.put (klit key) (.held (.slice da dn dc)), V1 := fun k' => if k' = key then .slice da dn dc else X2.V1 k', N := X2.N + 1 + 1 } ⟨HV8.out.1, HV8.out.2.1, (by show X2.N + 1 + 1 ≤ X.N + 3; have := HX2.out.1; omega), HX2.out.2.1, HX2.out.2.2.1, HV8.out.2.2⟩
    
    exact bodyPost_end (results_none rfl _ _ _) rfl ⟨⟨_, rfl⟩, fin⟩
end Go.Proofs.YtpmdjopojcgpeaaGreatDoor
