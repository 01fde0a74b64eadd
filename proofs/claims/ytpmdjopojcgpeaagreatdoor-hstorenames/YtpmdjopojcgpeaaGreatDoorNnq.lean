import Derived.Test.YtpmdjopojcgpeaaGreatDoorHoq
import Derived.Test.YtpmdjopojcgpeaaGreatDoorSeq
/-
  media.honest: Put, Append to a log that is nil. (Written by gen_hp.py.)
-/
namespace Go.Proofs.YtpmdjopojcgpeaaGreatDoor
open Go.RowKit Go.Maps Go.ChangeMaps

theorem Off.blk {w : World} {b : Nat} {cs : Array Value} {t : TypeId} {fz : Nat × Nat} (hb : w.heap[b]? = some (.cells cs t fz)) {T : TypeId} (hT : t ≠ T) : Off w (fun i => i = b) T := fun b' cs' fz' hb' q => by
  subst q
  rw [hb] at hb'
  injection hb' with hb'
  injection hb' with _ h2
  exact hT h2
theorem ne_map_blk {w : World} {b : Nat} {cs : Array Value} {t : TypeId} {fz : Nat × Nat} (hb : w.heap[b]? = some (.cells cs t fz)) {H : Type} {P : Program} {kt : TypeId} {R : Value → Option (DataW H × List MemPlace)} {m n : Nat} {D : DataW H} (hm : w.ownsMap P kt R m n D) : m ≠ b := by
  rintro rfl
  obtain ⟨es, clock, hg, _⟩ := hm
  rw [hb] at hg
  cases hg
/-- a block of another kind turns -/
theorem Dr.other {w w' : World} {F : Nat → Prop} {s : Dst} {X : Dx} (h : Dr w F s X) {b : Nat} {cs : Array Value} {T : TypeId} {fz : Nat × Nat} (hb : w.heap[b]? = some (.cells cs T fz)) (h5 : T ≠ 5) (hS : T ≠ SL) (hT : T ≠ ST) (hA : T ≠ AC) (hH : T ≠ HA) (t : Turn (fun i => i = b) w w') : Dr w' F s X :=
  h.turn t (ne_map_blk hb h.bl.mh.map) (ne_map_blk hb h.ve.mh.map) (ne_map_blk hb h.st.mh.map) (Off.blk hb h5) (Off.blk hb hS) (Off.blk hb hT) (Off.blk hb hA) (Off.blk hb hH)
set_option maxRecDepth 100000 in
set_option maxHeartbeats 6400000 in
theorem honest_2 {w : World} {F : Nat → Prop} {g : Nat} {s : Dst} {X : Dx} (hd : Db w g (X.dvf s)) (h : Dr w F s X) {key : List Nat} (hk : IsH key) {ba : Option Addr} {m bc : Nat} {n c : Int} {tag : List Nat} (ht : tag.length = 32) (ck cn cm : Int) (hr : refu s 2 key m = 0) (hF : F g) (hcl : ∀ i, F i → i < w.heap.size) (hN : X.N ≤ 1073741819) {x : List Nat} (hv : Vb w (.slice ba m bc) x) (hx : x.length ≤ 1048576) :
    Calls Tryz.prog 158 #[.pointer (some ⟨g, 0, none⟩), .agg (rqc 2 key (.slice ba m bc) n c tag).toArray, .agg #[.int .i64 ck, .int .i64 cn, .int .i64 cm]] w fun e w' => e = .returned (.agg (anc nilS nilS 0 z32 0).toArray) ∧ ∃ X', Db w' g (X'.dvf (layS s key x)) ∧ Dr w' (fun i => F i ∨ w.heap.size ≤ i) (layS s key x) X' ∧ X'.N ≤ X.N + 4 ∧ X'.lg = X.lg ∧ Turn F w w' := by
  obtain ⟨W, eW⟩ : ∃ W, W = ((w.alloc (.cells (rqc 2 key (.slice ba m bc) n c tag).toArray 164)).alloc (.cells #[.int .i64 ck, .int .i64 cn, .int .i64 cm] 152)).alloc (.cells (anc nilS nilS 0 z32 0).toArray 161) := ⟨_, rfl⟩
  have hb : Hb w W 2 key (.slice ba m bc) n c tag := by rw [eW]; exact hb_new _ _ _ _ _ _ _ _
  have HB : Hid (Hb w W 2 key (.slice ba m bc) n c tag ∧ Db w g (X.dvf s) ∧ Dr w F s X ∧ IsH key ∧ tag.length = 32) := ⟨hb, hd, h, hk, ht⟩
  have HI : Hid ((Tryz.prog.info? 164).map (·.size) = some (rqc 2 key (.slice ba m bc) n c tag).length) := i77' hk.1 ht
  have hz := zv74
  have HRF : Hid (Calls Tryz.prog 200 #[.pointer (some ⟨g, 0, none⟩), .agg (rqc 2 key (.slice ba m bc) n c tag).toArray] W fun e w' => e = .returned (.int .i64 (refu s 2 key m)) ∧ Below W.heap.size W w') := refusal_2 (hd.keep hb.below) (h.keep hb.below) hk
  have hgn : g < w.heap.size := hd.lt
  have HRQ : Hid (W.rangeAt w.heap.size 0 (rqc 2 key (.slice ba m bc) n c tag)) := hb.rq
  obtain ⟨L, eL⟩ : ∃ L, L = rqc 2 key (.slice ba m bc) n c tag := ⟨_, rfl⟩
  obtain ⟨Z, eZ⟩ : ∃ Z, Z = anc nilS nilS 0 z32 0 := ⟨_, rfl⟩
  rw [← eL] at eW HI HRF HRQ ⊢
  rw [← eZ] at eW hz
  rw [eW] at HRF HRQ
  have HV : Hid (Vb w (.slice ba m bc) x ∧ x.length ≤ 1048576 ∧ X.N ≤ 1073741819 ∧ F g ∧ ∀ i, F i → i < w.heap.size) := ⟨hv, hx, hN, hF, hcl⟩
  clear hd h hb hk eL eZ hv hx hN hF hcl
  go_enter Tryz.func158, Tryz.ntmps158
  go_wp2_with (first
    | refine wpList_load_mid_g (by kernel_rfl) 164 _ (by rfl) w.heap.size 0 (by rfl) L _ HRQ.out Tryz.underlying164 rfl HI.out ?_
    | (go_at_call 200; refine HRF.out.mono ?_))
  rintro _ w1 ⟨rfl, hb1⟩
  rw [← eW] at hb1
  have HB1 : Hid (Hb w w1 2 key (.slice ba m bc) n c tag) := HB.out.1.keep hb1
  obtain ⟨q0, _, q33, _⟩ := rq_at w1 2 key (.slice ba m bc) n c tag HB.out.2.2.2.1.1 HB1.out.rq
  rw [hr]
  clear hb1 HRF HRQ hr
  obtain ⟨_, qk, _⟩ := rq_at w1 2 key (.slice ba m bc) n c tag HB.out.2.2.2.1.1 HB1.out.rq
  have HRK : Hid (w1.rangeAt w.heap.size 1 (bv key)) := qk
  have HIK : Hid ((Tryz.prog.info? 38).map (·.size) = some (bv key).length) := by rw [bv_len, HB.out.2.2.2.1.1]; exact i33
  have HST : Hid (Calls Tryz.prog 201 #[.pointer (some ⟨g, 0, none⟩), .agg (bv key).toArray, .slice ba m bc] w1 fun e w' => (∃ z, e = .returned z) ∧ ∃ X', Db w' g (X'.dvf (layS s key x)) ∧ Dr w' (fun i => F i ∨ w1.heap.size ≤ i) (layS s key x) X' ∧ X'.N ≤ X.N + 4 ∧ X'.lg = X.lg ∧ Turn (fun i => F i ∨ w1.heap.size ≤ i) w1 w') :=
    store_any (HB.out.2.1.keep HB1.out.below) ((HB.out.2.2.1.keep HB1.out.below).mono (fun i q => Or.inl q)) (fun i q => Or.inr q) (Or.inl HV.out.2.2.2.1) HV.out.2.2.1 HB.out.2.2.2.1 (HV.out.1.keep HB1.out.below) HV.out.2.1
  clear qk
  go_wp2_with (first
    | refine wpList_load_mid_g (by kernel_rfl) 38 _ (by rfl) w.heap.size 1 (by rfl) (bv key) _ HRK.out Tryz.underlying38 rfl HIK.out ?_
    | (go_at_call 201; refine HST.out.mono ?_))
  rintro e w5 ⟨⟨z, rfl⟩, X5, r1, r2, r3, r4, r5⟩
  have hsz : w.heap.size + 2 < w1.heap.size := (Array.getElem?_eq_some_iff.1 HB1.out.an).1
  have HAN : Hid (w5.heap[w.heap.size + 2]? = some (.cells (anc nilS nilS 0 z32 0).toArray 161 (0, 0))) := r5.at_new HB1.out.an (fun q => by
    rcases q with q | q
    · have := HV.out.2.2.2.2 _ q; omega
    · omega)
  have HZ : Hid (Db w5 g (X5.dvf (layS s key x)) ∧ Dr w5 (fun i => F i ∨ w1.heap.size ≤ i) (layS s key x) X5 ∧ X5.N ≤ X.N + 4 ∧ X5.lg = X.lg ∧ Turn F w w5 ∧ w.heap.size ≤ w1.heap.size) := ⟨r1, r2, r3, r4, (Turn.of_below HB1.out.below).trans r5 (fun i q => by
    rcases q with q | q
    · exact Or.inl q
    · exact Or.inr (Nat.le_trans HB1.out.below.size q)), HB1.out.below.size⟩
  have bd := built74z
  have o1 : (anc nilS nilS 0 z32 0).toArray.all (·.oneCell') = true := anc_one rfl rfl
  have HL : Hid ((Tryz.prog.info? 161).map (·.size) = some (anc nilS nilS 0 z32 0).length ∧ (anc nilS nilS 0 z32 0).length = (anc nilS nilS 0 z32 0).length) := ⟨i74' z32_len, rfl⟩
  clear r1 r2 r3 r4 r5 HST hsz q0 q33
  go_wp2_with (first
    | refine wpList_bdL (by kernel_rfl) _ [] (by rfl) _ bd ?_
    | (refine wpList_g (by kernel_rfl) ?_; refine wp_store_row 161 _ _ (by rfl) (w.heap.size + 2) (anc nilS nilS 0 z32 0).toArray (by rfl) (by rfl) 161 (anc nilS nilS 0 z32 0).toArray HAN.out (by rw [List.size_toArray]; exact HL.out.1) rfl o1 ?_))
  have hr := setRow_heap' (cs' := (anc nilS nilS 0 z32 0).toArray) HAN.out
  have t6 : Turn (fun i => i = w.heap.size + 2) w5 (w5.setRow (w.heap.size + 2) (anc nilS nilS 0 z32 0).toArray) := Turn.setRow _ _ _ rfl
  have fin : ∃ X' : Dx, Db (w5.setRow (w.heap.size + 2) (anc nilS nilS 0 z32 0).toArray) g (X'.dvf (layS s key x)) ∧ Dr (w5.setRow (w.heap.size + 2) (anc nilS nilS 0 z32 0).toArray) (fun i => F i ∨ w.heap.size ≤ i) (layS s key x) X' ∧ X'.N ≤ X.N + 4 ∧ X'.lg = X.lg ∧ Turn F w (w5.setRow (w.heap.size + 2) (anc nilS nilS 0 z32 0).toArray) :=
    ⟨X5, HZ.out.1.turn t6 (by omega), (HZ.out.2.1.other HAN.out (by decide) (by decide) (by decide) (by decide) (by decide) t6).mono (fun i q => by
      rcases q with q | q
      · exact Or.inl q
      · exact Or.inr (by have := HZ.out.2.2.2.2.2; omega)), HZ.out.2.2.1, HZ.out.2.2.2.1, HZ.out.2.2.2.2.1.trans t6 (fun i q => Or.inr (by omega))⟩
  exact bodyPost_ret (res74 rfl _ _ (w.heap.size + 2) z32_len (rng_row hr) rfl) rfl ⟨rfl, fin⟩
set_option maxRecDepth 100000 in
set_option maxHeartbeats 6400000 in
theorem honest_6 {w : World} {F : Nat → Prop} {g : Nat} {s : Dst} {X : Dx} (hd : Db w g (X.dvf s)) (h : Dr w F s X) {key : List Nat} (hk : IsH key) {ba : Option Addr} {m bc : Nat} {n c : Int} {tag : List Nat} (ht : tag.length = 32) (ck cn cm : Int) (hr : refu s 6 key m = 0) (hm : m ≤ 1048576) (hnil : X.lg = nilS) (hF : F g) (hcl : ∀ i, F i → i < w.heap.size) (hN : X.N ≤ 1073741819) {x : List Nat} (hv : Vb w (.slice ba m bc) x) (hx : x.length ≤ 1048576) :
    Calls Tryz.prog 158 #[.pointer (some ⟨g, 0, none⟩), .agg (rqc 6 key (.slice ba m bc) n c tag).toArray, .agg #[.int .i64 ck, .int .i64 cn, .int .i64 cm]] w fun e w' => e = .returned (.agg (anc nilS nilS 0 z32 0).toArray) ∧ ∃ X', Db w' g (X'.dvf ({ s with log := x })) ∧ Dr w' (fun i => F i ∨ w.heap.size ≤ i) ({ s with log := x }) X' ∧ X'.N ≤ X.N + 4 ∧ Turn F w w' := by
  obtain ⟨W, eW⟩ : ∃ W, W = ((w.alloc (.cells (rqc 6 key (.slice ba m bc) n c tag).toArray 164)).alloc (.cells #[.int .i64 ck, .int .i64 cn, .int .i64 cm] 152)).alloc (.cells (anc nilS nilS 0 z32 0).toArray 161) := ⟨_, rfl⟩
  have hb : Hb w W 6 key (.slice ba m bc) n c tag := by rw [eW]; exact hb_new _ _ _ _ _ _ _ _
  have HB : Hid (Hb w W 6 key (.slice ba m bc) n c tag ∧ Db w g (X.dvf s) ∧ Dr w F s X ∧ IsH key ∧ tag.length = 32) := ⟨hb, hd, h, hk, ht⟩
  have HI : Hid ((Tryz.prog.info? 164).map (·.size) = some (rqc 6 key (.slice ba m bc) n c tag).length) := i77' hk.1 ht
  have hz := zv74
  have HRF : Hid (Calls Tryz.prog 200 #[.pointer (some ⟨g, 0, none⟩), .agg (rqc 6 key (.slice ba m bc) n c tag).toArray] W fun e w' => e = .returned (.int .i64 (refu s 6 key m)) ∧ Below W.heap.size W w') := refusal_6 (hd.keep hb.below) (h.keep hb.below) hk hm
  have hgn : g < w.heap.size := hd.lt
  have HRQ : Hid (W.rangeAt w.heap.size 0 (rqc 6 key (.slice ba m bc) n c tag)) := hb.rq
  obtain ⟨L, eL⟩ : ∃ L, L = rqc 6 key (.slice ba m bc) n c tag := ⟨_, rfl⟩
  obtain ⟨Z, eZ⟩ : ∃ Z, Z = anc nilS nilS 0 z32 0 := ⟨_, rfl⟩
  rw [← eL] at eW HI HRF HRQ ⊢
  rw [← eZ] at eW hz
  rw [eW] at HRF HRQ
  have HV : Hid (Vb w (.slice ba m bc) x ∧ x.length ≤ 1048576 ∧ X.N ≤ 1073741819 ∧ F g ∧ ∀ i, F i → i < w.heap.size) := ⟨hv, hx, hN, hF, hcl⟩
  have HNI : Hid (X.lg = nilS) := hnil
  clear hd h hb hk eL eZ hv hx hN hF hcl hnil
  go_enter Tryz.func158, Tryz.ntmps158
  go_wp2_with (first
    | refine wpList_load_mid_g (by kernel_rfl) 164 _ (by rfl) w.heap.size 0 (by rfl) L _ HRQ.out Tryz.underlying164 rfl HI.out ?_
    | (go_at_call 200; refine HRF.out.mono ?_))
  rintro _ w1 ⟨rfl, hb1⟩
  rw [← eW] at hb1
  have HB1 : Hid (Hb w w1 6 key (.slice ba m bc) n c tag) := HB.out.1.keep hb1
  obtain ⟨q0, _, q33, _⟩ := rq_at w1 6 key (.slice ba m bc) n c tag HB.out.2.2.2.1.1 HB1.out.rq
  rw [hr]
  clear hb1 HRF HRQ hr
  obtain ⟨sa, sb, so, sc, es, hvw, hsc, hsn, hsl⟩ := HV.out.1.keep HB1.out.below
  have em : m = x.length := by injection es
  have ea : sa = ba := by injection es with e1 _ _; exact e1.symm
  have ec : sc = bc := by injection es with _ _ e3; exact e3.symm
  subst ea
  subst ec
  subst em
  clear es q33
  have c3 : w1.drew.cell? ⟨g, 0 + 3, none⟩ = some nilS := by
    have := (HB.out.2.1.keep HB1.out.below).at_.2.2.2.1
    rw [← HNI.out]
    exact this
  have HC3 : Hid (w1.drew.cell? ⟨g, 0 + 3, none⟩ = some nilS ∧ Vw w1.drew sa sb so x ∧ (sa = none → sc = 0)) := ⟨c3, hvw.below (Below.refl _ _).drew, hsn⟩
  clear c3 hvw hsc hsn
  go_wp2_with fail
  refine wp_region_held_drew (S := fun u => u.rangeAt w.heap.size 0 (rqc 6 key (.slice sa x.length sc) n c tag)) (by kernel_rfl) (by exact HB1.out.rq) ?_
  intro hS
  change wpAnyH _ _ _ _ _ 11 _ _ _
  refine wpAnyH_take (i := 0) (v := (.pointer (some ⟨g, 0, none⟩))) (by simp only [List.getElem?_toArray, List.getElem?_cons_zero]; rfl) (by kernel_rfl) (by kernel_rfl) (by kernel_rfl) (by exact fun _ _ _ h => h) (y_move (by kernel_rfl) _ rfl _ rfl) hS ?_
  try simp only [Act.put, List.setIfInBounds_toArray, List.set_cons_zero, List.set_cons_succ]
  refine wpAnyH_take (i := 1) (v := (.pointer (some ⟨g, 0, none⟩))) (by simp only [List.getElem?_toArray, List.getElem?_cons_zero, List.getElem?_cons_succ]; rfl) (by kernel_rfl) (by kernel_rfl) (by kernel_rfl) (by exact fun _ _ _ h => h) (y_move (by kernel_rfl) _ rfl _ rfl) hS ?_
  try simp only [Act.put, List.setIfInBounds_toArray, List.set_cons_zero, List.set_cons_succ]
  refine wpAnyH_take (i := 2) (v := (.pointer (some ⟨g, 0, none⟩))) (by simp only [List.getElem?_toArray, List.getElem?_cons_zero, List.getElem?_cons_succ]; rfl) (by kernel_rfl) (by kernel_rfl) (by kernel_rfl) (by exact fun _ _ _ h => h) (y_nil (by kernel_rfl) _ rfl _ rfl) hS ?_
  try simp only [Act.put, List.setIfInBounds_toArray, List.set_cons_zero, List.set_cons_succ]
  refine wpAnyH_take (i := 3) (v := (.pointer (some ⟨g, 0 + 3, none⟩))) (by simp only [List.getElem?_toArray, List.getElem?_cons_zero, List.getElem?_cons_succ]; rfl) (by kernel_rfl) (by kernel_rfl) (by kernel_rfl) (by exact fun _ _ _ h => h) (y_f_Dev3 (by kernel_rfl) _ rfl _ _ rfl) hS ?_
  try simp only [Act.put, List.setIfInBounds_toArray, List.set_cons_zero, List.set_cons_succ]
  refine wpAnyH_take (i := 5) (v := (.pointer (some ⟨w.heap.size, 0 + 33, none⟩))) (by simp only [List.getElem?_toArray, List.getElem?_cons_zero, List.getElem?_cons_succ]; rfl) (by kernel_rfl) (by kernel_rfl) (by kernel_rfl) (by exact fun _ _ _ h => h) (y_f_Req2 (by kernel_rfl) _ rfl _ _ rfl) hS ?_
  try simp only [Act.put, List.setIfInBounds_toArray, List.set_cons_zero, List.set_cons_succ]
  refine wpAnyH_take (i := 6) (v := (.slice sa x.length sc)) (by simp only [List.getElem?_toArray, List.getElem?_cons_zero, List.getElem?_cons_succ]; rfl) (by kernel_rfl) (by kernel_rfl) (by kernel_rfl) (by exact fun _ _ _ h => h) (y_l_byt (by kernel_rfl) _ rfl _ _ rfl _ (fun u hs => (rq_at u 6 key _ n c tag HB.out.2.2.2.1.1 hs).2.2.1)) hS ?_
  try simp only [Act.put, List.setIfInBounds_toArray, List.set_cons_zero, List.set_cons_succ]
  refine wpAnyH_ready (rs := [4]) (by kernel_rfl) (by simp) ?_
  refine AllReadyH.cons (by simp only [List.getElem?_toArray, List.getElem?_cons_zero, List.getElem?_cons_succ]; rfl) (fun K hK => ?_) AllReadyH.nil
  refine r_yield (y_l_byt (by kernel_rfl) _ rfl _ _ rfl nilS (fun u hs => by rw [hs]; exact HC3.out.1)) ?_
  refine hK.out _ _ hS (fun hS => ?_)
  clear hK K
  try simp only [Act.put, List.setIfInBounds_toArray, List.set_cons_zero, List.set_cons_succ]
  refine wpAnyH_ready (rs := [7]) (by kernel_rfl) (by simp) ?_
  refine AllReadyH.cons (by simp only [List.getElem?_toArray, List.getElem?_cons_zero, List.getElem?_cons_succ]; rfl) (fun K hK => ?_) AllReadyH.nil
  refine step_append_bytes (by rfl) _ _ (by rfl) w1.heap.size nilS 0 [] (by rfl) (World.ownsRow_nil _ _ _ _) sa sb so x.length sc _ (by rfl) HC3.out.2.1 HC3.out.2.2 (by have := HV.out.2.1; omega) (Nat.le_refl _) ?_
  intro v' w4 own4 gr4 _
  have b4 : Below w1.heap.size w1 w4 := (Below.refl w1.heap.size w1).drew.trans (by
    have t : Turn (fun _ => False) w1.drew w4 := Turn.of_grown gr4 (fun k e => by simp [Value.ownBlock] at e)
    exact t.below (fun i q => q.elim) (Nat.le_refl _))
  have HB4 : Hid (Hb w w4 6 key (.slice sa x.length sc) n c tag) := HB1.out.keep b4
  have own4' : w4.ownsRow w1.heap.size 5 1 v' x.length (bv x) := by
    rw [vals_bv, Nat.zero_add] at own4
    exact own4
  have hDat : Dat w4 (fun i => F i ∨ w1.heap.size ≤ i) v' x := ⟨own_base own4', fun b hb => Or.inr (own4'.lt b hb).1, HV.out.2.1, (vw_ok HC3.out.2.1).2⟩
  have hDr0 := (HB.out.2.2.1.keep HB1.out.below).mono (F' := fun i => F i ∨ w1.heap.size ≤ i) (fun i q => Or.inl q)
  have hDr4 := hDr0.logs b4 hDat (fun i q z => by have := HV.out.2.2.2.2 i (HB.out.2.2.1.eF i z); have := (own4'.lt i q).1; have := HB1.out.below.size; omega)
  have hDb4 := (HB.out.2.1.keep HB1.out.below).keep b4
  obtain ⟨va, vc, ev⟩ := own_slice own4'
  subst ev
  clear own4 own4' gr4 hDat hDr0
  refine hK.out _ _ HB4.out.rq (fun hS => ?_)
  clear hK K
  try simp only [Act.put, List.setIfInBounds_toArray, List.set_cons_zero, List.set_cons_succ]
  refine wpAnyH_take (i := 8) (v := (.pointer (some ⟨g, 0, none⟩))) (by simp only [List.getElem?_toArray, List.getElem?_cons_zero, List.getElem?_cons_succ]; rfl) (by kernel_rfl) (by kernel_rfl) (by kernel_rfl) (by exact fun _ _ _ h => h) (y_nil (by kernel_rfl) _ rfl _ rfl) hS ?_
  try simp only [Act.put, List.setIfInBounds_toArray, List.set_cons_zero, List.set_cons_succ]
  refine wpAnyH_take (i := 9) (v := (.pointer (some ⟨g, 0 + 3, none⟩))) (by simp only [List.getElem?_toArray, List.getElem?_cons_zero, List.getElem?_cons_succ]; rfl) (by kernel_rfl) (by kernel_rfl) (by kernel_rfl) (by exact fun _ _ _ h => h) (y_f_Dev3 (by kernel_rfl) _ rfl _ _ rfl) hS ?_
  try simp only [Act.put, List.setIfInBounds_toArray, List.set_cons_zero, List.set_cons_succ]
  refine wpAnyH_ready (rs := [10]) (by kernel_rfl) (by simp) ?_
  refine AllReadyH.cons (by simp only [List.getElem?_toArray, List.getElem?_cons_zero, List.getElem?_cons_succ]; rfl) (fun K hK => ?_) AllReadyH.nil
  refine r_s_byt (by kernel_rfl) _ _ rfl g (0 + 3) rfl (.slice va x.length vc) _ rfl ⟨_, _, _, rfl⟩ hDb4.at_.2.2.2.1 (hDb4.frz 3) ?_
  have t5 : Turn (fun i => i = g) w4 (w4.setCell ⟨g, 0 + 3, none⟩ (.slice va x.length vc)) := Turn.setCell _ _ _ rfl
  have HAN : Hid ((w4.setCell ⟨g, 0 + 3, none⟩ (.slice va x.length vc)).heap[w.heap.size + 2]? = some (.cells (anc nilS nilS 0 z32 0).toArray 161 (0, 0))) := t5.at_new HB4.out.an (by omega)
  have HZ : Hid (Db (w4.setCell ⟨g, 0 + 3, none⟩ (.slice va x.length vc)) g ({ X with lg := .slice va x.length vc }.dvf { s with log := x }) ∧ Dr (w4.setCell ⟨g, 0 + 3, none⟩ (.slice va x.length vc)) (fun i => F i ∨ w1.heap.size ≤ i) { s with log := x } { X with lg := .slice va x.length vc } ∧ { X with lg := .slice va x.length vc }.N ≤ X.N + 4 ∧ Turn F w (w4.setCell ⟨g, 0 + 3, none⟩ (.slice va x.length vc)) ∧ w.heap.size ≤ w1.heap.size) :=
    ⟨hDb4.setLg _, hDr4.self hDb4 t5, Nat.le_add_right _ _, (Turn.of_below HB4.out.below).trans t5 (fun i q => Or.inl (by rw [q]; exact HV.out.2.2.2.1)), HB1.out.below.size⟩
  refine hK.out _ _ (rng_same HB4.out.rq (t5.block _ (rng_lt HB4.out.rq (by rw [rqc_len HB.out.2.2.2.1.1 HB.out.2.2.2.2]; decide)) (by omega))) (fun _ => ?_)
  clear hS hDb4 hDr4 t5 b4
  clear hK K
  try simp only [Act.put]
  refine wpAnyH_done (by kernel_rfl) ?_ _
  obtain ⟨X5, eX5⟩ : ∃ Y : Dx, Y = { X with lg := .slice va x.length vc } := ⟨_, rfl⟩
  rw [← eX5] at HZ
  revert HZ HAN
  generalize w4.setCell ⟨g, 0 + 3, none⟩ (.slice va x.length vc) = w5
  intro HAN HZ
  have q0' : w5.cell? ⟨w.heap.size, 0, none⟩ = some (.int .i64 6) ∨ True := Or.inr trivial
  have bd := built74z
  have o1 : (anc nilS nilS 0 z32 0).toArray.all (·.oneCell') = true := anc_one rfl rfl
  have HL : Hid ((Tryz.prog.info? 161).map (·.size) = some (anc nilS nilS 0 z32 0).length ∧ (anc nilS nilS 0 z32 0).length = (anc nilS nilS 0 z32 0).length) := ⟨i74' z32_len, rfl⟩
  clear HC3 HB4 eX5 q0 q0'
  go_wp2_with (first
    | refine wpList_bdL (by kernel_rfl) _ [] (by rfl) _ bd ?_
    | (refine wpList_g (by kernel_rfl) ?_; refine wp_store_row 161 _ _ (by rfl) (w.heap.size + 2) (anc nilS nilS 0 z32 0).toArray (by rfl) (by rfl) 161 (anc nilS nilS 0 z32 0).toArray HAN.out (by rw [List.size_toArray]; exact HL.out.1) rfl o1 ?_))
  have hr := setRow_heap' (cs' := (anc nilS nilS 0 z32 0).toArray) HAN.out
  have t6 : Turn (fun i => i = w.heap.size + 2) w5 (w5.setRow (w.heap.size + 2) (anc nilS nilS 0 z32 0).toArray) := Turn.setRow _ _ _ rfl
  have fin : ∃ X' : Dx, Db (w5.setRow (w.heap.size + 2) (anc nilS nilS 0 z32 0).toArray) g (X'.dvf ({ s with log := x })) ∧ Dr (w5.setRow (w.heap.size + 2) (anc nilS nilS 0 z32 0).toArray) (fun i => F i ∨ w.heap.size ≤ i) ({ s with log := x }) X' ∧ X'.N ≤ X.N + 4 ∧ Turn F w (w5.setRow (w.heap.size + 2) (anc nilS nilS 0 z32 0).toArray) :=
    ⟨X5, HZ.out.1.turn t6 (by omega), (HZ.out.2.1.other HAN.out (by decide) (by decide) (by decide) (by decide) (by decide) t6).mono (fun i q => by
      rcases q with q | q
      · exact Or.inl q
      · exact Or.inr (by have := HZ.out.2.2.2.2; omega)), HZ.out.2.2.1, HZ.out.2.2.2.1.trans t6 (fun i q => Or.inr (by omega))⟩
  exact bodyPost_ret (res74 rfl _ _ (w.heap.size + 2) z32_len (rng_row hr) rfl) rfl ⟨rfl, fin⟩
end Go.Proofs.YtpmdjopojcgpeaaGreatDoor

/-
  For access: next without choices; the deed of the first choice.
-/
namespace Go.Proofs.YtpmdjopojcgpeaaGreatDoor
open Go.RowKit Go.Maps Go.ChangeMaps

set_option maxRecDepth 100000 in
set_option maxHeartbeats 800000 in
theorem next_nil {w : World} {g : Nat} {d : Dvf} (h : Db w g d) {a : Option Addr} {c : Nat} (hc : d.ch = .slice a 0 c) :
    Calls Tryz.prog 126 #[.pointer (some ⟨g, 0, none⟩)] w fun e w' => e = .returned (.agg #[.int .i64 0, .int .i64 0, .int .i64 0]) ∧ Below w.heap.size w w' := by
  obtain ⟨c0, c1, c2, c3, c4, c5, c6, c7, c8, c9, c10, c11⟩ := h.at_
  rw [hc] at c6
  have hgl := h.lt
  have hgn : g ≠ w.heap.size := by omega
  clear h c0 c1 c2 c3 c4 c5 c7 c8 c9 c10 c11 hc
  go_enter Tryz.func126, Tryz.ntmps126
  go_wp2_with fail
  exact bodyPost_ret (v := .agg #[.int .i64 0, .int .i64 0, .int .i64 0]) (by simp [results, Tryz.results126, go_sem]) rfl ⟨rfl, (Below.refl _ _).alloc (Nat.le_refl _) _⟩
theorem toB_same (k : Int) (v : Value) : toB k v v v v = v := by
  unfold toB
  split
  · rfl
  · split
    · rfl
    · split <;> rfl
abbrev fh : Value := fv 158
theorem to_honest (w : World) (k : Int) : Calls Tryz.prog 128 #[.agg #[fh, fh, fh, fh], .int .i64 k] w fun e w' => e = .returned fh ∧ Below w.heap.size w w' := by
  have := to_any w k fh fh fh fh
  rw [toB_same] at this
  exact this
set_option maxRecDepth 100000 in
theorem idx0 (w : World) : (Instr.index 201 (.agg deedL.toArray) (.int .i64 0)).run Tryz.prog w = .ok (.agg #[fh, fh, fh, fh]) w := by
  have hi : (Tryz.prog.info? 200).map (·.size) = some 4 := by kernel_rfl
  simp [Instr.index, run_underlying Tryz.underlying201, deedL, part, go_sem]
section
variable {ops : Array Oper} {S : World → Prop} {o : Oper} {a : Act}
theorem y_idx (hw : Region.wanted o (yielded ops a.tmps) = true) (T : TypeId) (x i : Operand) (ho : o.op = .index T x i) (vx vi v : Value) (hx : a.eval x = vx) (hi : a.eval i = vi) (hr : ∀ w, (Instr.index T vx vi).run Tryz.prog w = .ok v w) : YieldsIf Tryz.prog ops S o v a :=
  .inl ⟨hw, fun w hs => by
    have e := hr w
    unfold execOp
    simp only [ho, hx, hi, Sem.run_bind, e, Result.andThen_ok]
    rfl⟩
end
end Go.Proofs.YtpmdjopojcgpeaaGreatDoor
