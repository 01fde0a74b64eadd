import Derived.Test.YtpmdjopojcgpeaaGreatDoorStoq
/-
  media.honest, by kinds. (Written by gen_ho.py.)
-/
namespace Go.Proofs.YtpmdjopojcgpeaaGreatDoor
open Go.RowKit Go.Maps Go.ChangeMaps

theorem built74b (a : Option Addr) (n c : Nat) : Tryz.prog.built 161 [(0, .slice a n c)] = some (anc (.slice a n c) nilS 0 z32 0).toArray := by kernel_rfl
theorem built74z : Tryz.prog.built 161 [] = some (anc nilS nilS 0 z32 0).toArray := by kernel_rfl
/-- what lies in memory when honest has begun -/
structure Hb (w u : World) (k : Int) (key : List Nat) (b : Value) (n c : Int) (tag : List Nat) : Prop where
  below : Below w.heap.size w u
  rq : u.rangeAt w.heap.size 0 (rqc k key b n c tag)
  an : u.heap[w.heap.size + 2]? = some (.cells (anc nilS nilS 0 z32 0).toArray 161 (0, 0))
theorem Hb.keep {w u u' : World} {k : Int} {key : List Nat} {b : Value} {n c : Int} {tag : List Nat} (h : Hb w u k key b n c tag) (q : Below u.heap.size u u') : Hb w u' k key b n c tag :=
  ⟨h.below.trans (q.mono h.below.size), rng_keep h.rq q, (q.block _ (Array.getElem?_eq_some_iff.1 h.an).1).trans h.an⟩
theorem Hb.turn {G : Nat → Prop} {w u u' : World} {k : Int} {key : List Nat} {b : Value} {n c : Int} {tag : List Nat} (h : Hb w u k key b n c tag) (hk : key.length = 32) (ht : tag.length = 32) (t : Turn G u u') (hG : ∀ i, G i → i ≠ w.heap.size ∧ i ≠ w.heap.size + 2) : u'.rangeAt w.heap.size 0 (rqc k key b n c tag) ∧ u'.heap[w.heap.size + 2]? = some (.cells (anc nilS nilS 0 z32 0).toArray 161 (0, 0)) :=
  ⟨rng_same h.rq (t.block _ (rng_lt h.rq (by rw [rqc_len hk ht]; decide)) (fun q => (hG _ q).1 rfl)), t.at_new h.an (fun q => (hG _ q).2 rfl)⟩
theorem hb_new (w : World) (k : Int) (key : List Nat) (b : Value) (n c : Int) (tag : List Nat) (o2 : Obj) : Hb w (((w.alloc (.cells (rqc k key b n c tag).toArray 164)).alloc o2).alloc (.cells (anc nilS nilS 0 z32 0).toArray 161)) k key b n c tag := by
  have b1 : Below w.heap.size w (w.alloc (.cells (rqc k key b n c tag).toArray 164)) := (Below.refl _ _).alloc (Nat.le_refl _) _
  have b2 := (Below.refl (w.alloc (.cells (rqc k key b n c tag).toArray 164)).heap.size (w.alloc (.cells (rqc k key b n c tag).toArray 164))).alloc (Nat.le_refl _) o2
  have b3 := (Below.refl ((w.alloc (.cells (rqc k key b n c tag).toArray 164)).alloc o2).heap.size ((w.alloc (.cells (rqc k key b n c tag).toArray 164)).alloc o2)).alloc (Nat.le_refl _) (.cells (anc nilS nilS 0 z32 0).toArray 161)
  refine ⟨ch (ch b1 b2) b3, rng_keep (rng_keep (rng_new w _ _) b2) b3, ?_⟩
  have := heap_alloc_new ((w.alloc (.cells (rqc k key b n c tag).toArray 164)).alloc o2) (.cells (anc nilS nilS 0 z32 0).toArray 161)
  simpa using this
set_option maxRecDepth 100000 in
set_option maxHeartbeats 6400000 in
theorem honest_1r {w : World} {F : Nat → Prop} {g : Nat} {s : Dst} {X : Dx} (hd : Db w g (X.dvf s)) (h : Dr w F s X) {key : List Nat} (hk : IsH key) {ba : Option Addr} {m bc : Nat} {n c : Int} {tag : List Nat} (ht : tag.length = 32) (ck cn cm : Int) (hr : refu s 1 key m ≠ 0) :
    Calls Tryz.prog 158 #[.pointer (some ⟨g, 0, none⟩), .agg (rqc 1 key (.slice ba m bc) n c tag).toArray, .agg #[.int .i64 ck, .int .i64 cn, .int .i64 cm]] w fun e w' => e = .returned (.agg (anc nilS nilS 0 z32 (refu s 1 key m)).toArray) ∧ Below w.heap.size w w' := by
  obtain ⟨W, eW⟩ : ∃ W, W = ((w.alloc (.cells (rqc 1 key (.slice ba m bc) n c tag).toArray 164)).alloc (.cells #[.int .i64 ck, .int .i64 cn, .int .i64 cm] 152)).alloc (.cells (anc nilS nilS 0 z32 0).toArray 161) := ⟨_, rfl⟩
  have hb : Hb w W 1 key (.slice ba m bc) n c tag := by rw [eW]; exact hb_new _ _ _ _ _ _ _ _
  have HB : Hid (Hb w W 1 key (.slice ba m bc) n c tag ∧ Db w g (X.dvf s) ∧ Dr w F s X ∧ IsH key ∧ tag.length = 32) := ⟨hb, hd, h, hk, ht⟩
  have HI : Hid ((Tryz.prog.info? 164).map (·.size) = some (rqc 1 key (.slice ba m bc) n c tag).length) := i77' hk.1 ht
  have hz := zv74
  have HRF : Hid (Calls Tryz.prog 200 #[.pointer (some ⟨g, 0, none⟩), .agg (rqc 1 key (.slice ba m bc) n c tag).toArray] W fun e w' => e = .returned (.int .i64 (refu s 1 key m)) ∧ Below W.heap.size W w') := refusal_1 (hd.keep hb.below) (h.keep hb.below) hk
  have hgn : g < w.heap.size := hd.lt
  have HRQ : Hid (W.rangeAt w.heap.size 0 (rqc 1 key (.slice ba m bc) n c tag)) := hb.rq
  obtain ⟨L, eL⟩ : ∃ L, L = rqc 1 key (.slice ba m bc) n c tag := ⟨_, rfl⟩
  obtain ⟨Z, eZ⟩ : ∃ Z, Z = anc nilS nilS 0 z32 0 := ⟨_, rfl⟩
  rw [← eL] at eW HI HRF HRQ ⊢
  rw [← eZ] at eW hz
  rw [eW] at HRF HRQ
  clear hd h hb hk eL eZ
  go_enter Tryz.func158, Tryz.ntmps158
  go_wp2_with (first
    | refine wpList_load_mid_g (by kernel_rfl) 164 _ (by rfl) w.heap.size 0 (by rfl) L _ HRQ.out Tryz.underlying164 rfl HI.out ?_
    | (go_at_call 200; refine HRF.out.mono ?_))
  rintro _ w1 ⟨rfl, hb1⟩
  rw [← eW] at hb1
  have HB1 : Hid (Hb w w1 1 key (.slice ba m bc) n c tag) := HB.out.1.keep hb1
  obtain ⟨q0, _, q33, _⟩ := rq_at w1 1 key (.slice ba m bc) n c tag HB.out.2.2.2.1.1 HB1.out.rq
  obtain ⟨r, er⟩ : ∃ r, r = refu s 1 key m := ⟨_, rfl⟩
  have HER : Hid (r = refu s 1 key m) := er
  rw [← er] at hr ⊢
  have hr1 : (r != 0) = true := by simpa using hr
  have bd := built74e r
  have o1 : (anc nilS nilS 0 z32 r).toArray.all (·.oneCell') = true := anc_one rfl rfl
  have HL : Hid ((Tryz.prog.info? 161).map (·.size) = some (anc nilS nilS 0 z32 r).length ∧ (anc nilS nilS 0 z32 r).length = (anc nilS nilS 0 z32 0).length) := ⟨i74' z32_len, by rw [anc_len z32_len, anc_len z32_len]⟩
  clear hb1 HRF HRQ hr er q0 q33
  go_wp2_with (first
    | refine wpList_bdL (by kernel_rfl) _ _ (by rfl) _ bd ?_
    | refine wpList_stB (by kernel_rfl) _ _ _ (by rfl) (w.heap.size + 2) (anc nilS nilS 0 z32 r) (anc nilS nilS 0 z32 0) HL.out.1 HL.out.2 o1 HB1.out.an (by rfl) (by rfl) ?_)
  have hr := setRow_heap' (cs' := (anc nilS nilS 0 z32 r).toArray) HB1.out.an
  exact bodyPost_ret (res74 rfl _ _ (w.heap.size + 2) z32_len (rng_row hr) rfl) rfl ⟨by rw [HER.out], below_setRow HB1.out.below (by omega) _⟩
set_option maxRecDepth 100000 in
set_option maxHeartbeats 6400000 in
theorem honest_2r {w : World} {F : Nat → Prop} {g : Nat} {s : Dst} {X : Dx} (hd : Db w g (X.dvf s)) (h : Dr w F s X) {key : List Nat} (hk : IsH key) {ba : Option Addr} {m bc : Nat} {n c : Int} {tag : List Nat} (ht : tag.length = 32) (ck cn cm : Int) (hr : refu s 2 key m ≠ 0) :
    Calls Tryz.prog 158 #[.pointer (some ⟨g, 0, none⟩), .agg (rqc 2 key (.slice ba m bc) n c tag).toArray, .agg #[.int .i64 ck, .int .i64 cn, .int .i64 cm]] w fun e w' => e = .returned (.agg (anc nilS nilS 0 z32 (refu s 2 key m)).toArray) ∧ Below w.heap.size w w' := by
  obtain ⟨W, eW⟩ : ∃ W, W = ((w.alloc (.cells (rqc 2 key (.slice ba m bc) n c tag).toArray 164)).alloc (.cells #[.int .i64 ck, .int .i64 cn, .int .i64 cm] 152)).alloc (.cells (anc nilS nilS 0 z32 0).toArray 161) := ⟨_, rfl⟩
  have hb : Hb w W 2 key (.slice ba m bc) n c tag := by rw [eW]; exact hb_new _ _ _ _ _ _ _ _
  have HB : Hid (Hb w W 2 key (.slice ba m bc) n c tag ∧ Db w g (X.dvf s) ∧ Dr w F s X ∧ IsH key ∧ tag.length = 32) := ⟨hb, hd, h, hk, ht⟩
  have HI : Hid ((Tryz.prog.info? 164).map (·.size) = some (rqc 2 key (.slice ba m bc) n c tag).length) := i77' hk.1 ht
  have hz := zv74
  have HRF : Hid (Calls Tryz.prog 200 #[.pointer (some ⟨g, 0, none⟩), .agg (rqc 2 key (.slice ba m bc) n c tag).toArray] W fun e w' => e = .returned (.int .i64 (refu s 2 key m)) ∧ Below W.heap.size W w') := refusal_2 (hd.keep hb.below) (h.keep hb.below) hk
  have hgn : g < w.heap.size := hd.lt
  have HRQ : Hid (W.rangeAt w.heap.size 0 (rqc 2 key (.slice ba m bc) n c tag)) := hb.rq
  obtain ⟨L, eL⟩ : ∃ L, L = rqc 2 key (.slice ba m bc) n c tag := ⟨_, rfl⟩
  obtain ⟨Z, eZ⟩ : ∃ Z, Z = anc nilS nilS 0 z32 0 := ⟨_, rfl⟩
  rw [← eL] at eW HI HRF HRQ ⊢
  rw [← eZ] at eW hz
  rw [eW] at HRF HRQ
  clear hd h hb hk eL eZ
  go_enter Tryz.func158, Tryz.ntmps158
  go_wp2_with (first
    | refine wpList_load_mid_g (by kernel_rfl) 164 _ (by rfl) w.heap.size 0 (by rfl) L _ HRQ.out Tryz.underlying164 rfl HI.out ?_
    | (go_at_call 200; refine HRF.out.mono ?_))
  rintro _ w1 ⟨rfl, hb1⟩
  rw [← eW] at hb1
  have HB1 : Hid (Hb w w1 2 key (.slice ba m bc) n c tag) := HB.out.1.keep hb1
  obtain ⟨q0, _, q33, _⟩ := rq_at w1 2 key (.slice ba m bc) n c tag HB.out.2.2.2.1.1 HB1.out.rq
  obtain ⟨r, er⟩ : ∃ r, r = refu s 2 key m := ⟨_, rfl⟩
  have HER : Hid (r = refu s 2 key m) := er
  rw [← er] at hr ⊢
  have hr1 : (r != 0) = true := by simpa using hr
  have bd := built74e r
  have o1 : (anc nilS nilS 0 z32 r).toArray.all (·.oneCell') = true := anc_one rfl rfl
  have HL : Hid ((Tryz.prog.info? 161).map (·.size) = some (anc nilS nilS 0 z32 r).length ∧ (anc nilS nilS 0 z32 r).length = (anc nilS nilS 0 z32 0).length) := ⟨i74' z32_len, by rw [anc_len z32_len, anc_len z32_len]⟩
  clear hb1 HRF HRQ hr er q0 q33
  go_wp2_with (first
    | refine wpList_bdL (by kernel_rfl) _ _ (by rfl) _ bd ?_
    | refine wpList_stB (by kernel_rfl) _ _ _ (by rfl) (w.heap.size + 2) (anc nilS nilS 0 z32 r) (anc nilS nilS 0 z32 0) HL.out.1 HL.out.2 o1 HB1.out.an (by rfl) (by rfl) ?_)
  have hr := setRow_heap' (cs' := (anc nilS nilS 0 z32 r).toArray) HB1.out.an
  exact bodyPost_ret (res74 rfl _ _ (w.heap.size + 2) z32_len (rng_row hr) rfl) rfl ⟨by rw [HER.out], below_setRow HB1.out.below (by omega) _⟩
set_option maxRecDepth 100000 in
set_option maxHeartbeats 6400000 in
theorem honest_6r {w : World} {F : Nat → Prop} {g : Nat} {s : Dst} {X : Dx} (hd : Db w g (X.dvf s)) (h : Dr w F s X) {key : List Nat} (hk : IsH key) {ba : Option Addr} {m bc : Nat} {n c : Int} {tag : List Nat} (ht : tag.length = 32) (ck cn cm : Int) (hr : refu s 6 key m ≠ 0) (hm : m ≤ 1048576) :
    Calls Tryz.prog 158 #[.pointer (some ⟨g, 0, none⟩), .agg (rqc 6 key (.slice ba m bc) n c tag).toArray, .agg #[.int .i64 ck, .int .i64 cn, .int .i64 cm]] w fun e w' => e = .returned (.agg (anc nilS nilS 0 z32 (refu s 6 key m)).toArray) ∧ Below w.heap.size w w' := by
  obtain ⟨W, eW⟩ : ∃ W, W = ((w.alloc (.cells (rqc 6 key (.slice ba m bc) n c tag).toArray 164)).alloc (.cells #[.int .i64 ck, .int .i64 cn, .int .i64 cm] 152)).alloc (.cells (anc nilS nilS 0 z32 0).toArray 161) := ⟨_, rfl⟩
  have hb : Hb w W 6 key (.slice ba m bc) n c tag := by rw [eW]; exact hb_new _ _ _ _ _ _ _ _
  have HB : Hid (Hb w W 6 key (.slice ba m bc) n c tag ∧ Db w g (X.dvf s) ∧ Dr w F s X ∧ IsH key ∧ tag.length = 32) := ⟨hb, hd, h, hk, ht⟩
  have HI : Hid ((Tryz.prog.info? 164).map (·.size) = some (rqc 6 key (.slice ba m bc) n c tag).length) := i77' hk.1 ht
  have hz := zv74
  have HRF : Hid (Calls Tryz.prog 200 #[.pointer (some ⟨g, 0, none⟩), .agg (rqc 6 key (.slice ba m bc) n c tag).toArray] W fun e w' => e = .returned (.int .i64 (refu s 6 key m)) ∧ Below W.heap.size W w') := refusal_6 (hd.keep hb.below) (h.keep hb.below) hk hm
  have hgn : g < w.heap.size := hd.lt
  have HRQ : Hid (W.rangeAt w.heap.size 0 (rqc 6 key (.slice ba m bc) n c tag)) := hb.rq
  obtain ⟨L, eL⟩ : ∃ L, L = rqc 6 key (.slice ba m bc) n c tag := ⟨_, rfl⟩
  obtain ⟨Z, eZ⟩ : ∃ Z, Z = anc nilS nilS 0 z32 0 := ⟨_, rfl⟩
  rw [← eL] at eW HI HRF HRQ ⊢
  rw [← eZ] at eW hz
  rw [eW] at HRF HRQ
  clear hd h hb hk eL eZ
  go_enter Tryz.func158, Tryz.ntmps158
  go_wp2_with (first
    | refine wpList_load_mid_g (by kernel_rfl) 164 _ (by rfl) w.heap.size 0 (by rfl) L _ HRQ.out Tryz.underlying164 rfl HI.out ?_
    | (go_at_call 200; refine HRF.out.mono ?_))
  rintro _ w1 ⟨rfl, hb1⟩
  rw [← eW] at hb1
  have HB1 : Hid (Hb w w1 6 key (.slice ba m bc) n c tag) := HB.out.1.keep hb1
  obtain ⟨q0, _, q33, _⟩ := rq_at w1 6 key (.slice ba m bc) n c tag HB.out.2.2.2.1.1 HB1.out.rq
  obtain ⟨r, er⟩ : ∃ r, r = refu s 6 key m := ⟨_, rfl⟩
  have HER : Hid (r = refu s 6 key m) := er
  rw [← er] at hr ⊢
  have hr1 : (r != 0) = true := by simpa using hr
  have bd := built74e r
  have o1 : (anc nilS nilS 0 z32 r).toArray.all (·.oneCell') = true := anc_one rfl rfl
  have HL : Hid ((Tryz.prog.info? 161).map (·.size) = some (anc nilS nilS 0 z32 r).length ∧ (anc nilS nilS 0 z32 r).length = (anc nilS nilS 0 z32 0).length) := ⟨i74' z32_len, by rw [anc_len z32_len, anc_len z32_len]⟩
  clear hb1 HRF HRQ hr er q0 q33
  go_wp2_with (first
    | refine wpList_bdL (by kernel_rfl) _ _ (by rfl) _ bd ?_
    | refine wpList_stB (by kernel_rfl) _ _ _ (by rfl) (w.heap.size + 2) (anc nilS nilS 0 z32 r) (anc nilS nilS 0 z32 0) HL.out.1 HL.out.2 o1 HB1.out.an (by rfl) (by rfl) ?_)
  have hr := setRow_heap' (cs' := (anc nilS nilS 0 z32 r).toArray) HB1.out.an
  exact bodyPost_ret (res74 rfl _ _ (w.heap.size + 2) z32_len (rng_row hr) rfl) rfl ⟨by rw [HER.out], below_setRow HB1.out.below (by omega) _⟩
set_option maxRecDepth 100000 in
set_option maxHeartbeats 6400000 in
theorem honest_1 {w : World} {F : Nat → Prop} {g : Nat} {s : Dst} {X : Dx} (hd : Db w g (X.dvf s)) (h : Dr w F s X) {key : List Nat} (hk : IsH key) {ba : Option Addr} {m bc : Nat} {n c : Int} {tag : List Nat} (ht : tag.length = 32) (ck cn cm : Int) (hr : refu s 1 key m = 0) :
    Calls Tryz.prog 158 #[.pointer (some ⟨g, 0, none⟩), .agg (rqc 1 key (.slice ba m bc) n c tag).toArray, .agg #[.int .i64 ck, .int .i64 cn, .int .i64 cm]] w fun e w' => ∃ b, e = .returned (.agg (anc b nilS 0 z32 0).toArray) ∧ w'.ownsRow w.heap.size 5 1 b ((s.bl key).getD []).length (bv ((s.bl key).getD [])) ∧ Below w.heap.size w w' := by
  obtain ⟨W, eW⟩ : ∃ W, W = ((w.alloc (.cells (rqc 1 key (.slice ba m bc) n c tag).toArray 164)).alloc (.cells #[.int .i64 ck, .int .i64 cn, .int .i64 cm] 152)).alloc (.cells (anc nilS nilS 0 z32 0).toArray 161) := ⟨_, rfl⟩
  have hb : Hb w W 1 key (.slice ba m bc) n c tag := by rw [eW]; exact hb_new _ _ _ _ _ _ _ _
  have HB : Hid (Hb w W 1 key (.slice ba m bc) n c tag ∧ Db w g (X.dvf s) ∧ Dr w F s X ∧ IsH key ∧ tag.length = 32) := ⟨hb, hd, h, hk, ht⟩
  have HI : Hid ((Tryz.prog.info? 164).map (·.size) = some (rqc 1 key (.slice ba m bc) n c tag).length) := i77' hk.1 ht
  have hz := zv74
  have HRF : Hid (Calls Tryz.prog 200 #[.pointer (some ⟨g, 0, none⟩), .agg (rqc 1 key (.slice ba m bc) n c tag).toArray] W fun e w' => e = .returned (.int .i64 (refu s 1 key m)) ∧ Below W.heap.size W w') := refusal_1 (hd.keep hb.below) (h.keep hb.below) hk
  have hgn : g < w.heap.size := hd.lt
  have HRQ : Hid (W.rangeAt w.heap.size 0 (rqc 1 key (.slice ba m bc) n c tag)) := hb.rq
  obtain ⟨L, eL⟩ : ∃ L, L = rqc 1 key (.slice ba m bc) n c tag := ⟨_, rfl⟩
  obtain ⟨Z, eZ⟩ : ∃ Z, Z = anc nilS nilS 0 z32 0 := ⟨_, rfl⟩
  rw [← eL] at eW HI HRF HRQ ⊢
  rw [← eZ] at eW hz
  rw [eW] at HRF HRQ
  clear hd h hb hk eL eZ
  go_enter Tryz.func158, Tryz.ntmps158
  go_wp2_with (first
    | refine wpList_load_mid_g (by kernel_rfl) 164 _ (by rfl) w.heap.size 0 (by rfl) L _ HRQ.out Tryz.underlying164 rfl HI.out ?_
    | (go_at_call 200; refine HRF.out.mono ?_))
  rintro _ w1 ⟨rfl, hb1⟩
  rw [← eW] at hb1
  have HB1 : Hid (Hb w w1 1 key (.slice ba m bc) n c tag) := HB.out.1.keep hb1
  obtain ⟨q0, _, q33, _⟩ := rq_at w1 1 key (.slice ba m bc) n c tag HB.out.2.2.2.1.1 HB1.out.rq
  rw [hr]
  clear hb1 HRF HRQ hr
  have HL : Hid (∀ u, Below w.heap.size w u → (Instr.lookup 97 (.map (some X.m1)) (.agg (bv key).toArray) false).run Tryz.prog u = .ok (X.V1 key) u) := fun u hu => (HB.out.2.2.1.keep hu).bl.mh.look Tryz.underlying97 zeroMb HB.out.2.2.2.1
  obtain ⟨xx, exx⟩ : ∃ y, y = (s.bl key).getD [] := ⟨_, rfl⟩
  have HD1 : Hid (∀ u, Below w.heap.size w u → Dat u X.E (X.V1 key) xx) := fun u hu => by rw [exx]; exact (HB.out.2.2.1.keep hu).bl.dat key HB.out.2.2.2.1
  have HXX : Hid (xx = (s.bl key).getD []) := exx
  obtain ⟨va, vc, ev⟩ := own_slice (HD1.out w (Below.refl _ _)).own
  rw [ev] at HL HD1
  clear q33 exx ev
  go_wp2_with fail
  refine wp_region_held_drew (S := fun u => Below w.heap.size w u ∧ u.rangeAt w.heap.size 0 (rqc 1 key (.slice ba m bc) n c tag)) (by kernel_rfl) (by exact ⟨HB1.out.below.drew, HB1.out.rq⟩) ?_
  intro hS
  change wpAnyH _ _ _ _ _ 10 _ _ _
  refine wpAnyH_take (i := 0) (v := (.pointer (some ⟨g, 0, none⟩))) (by simp only [List.getElem?_toArray, List.getElem?_cons_zero]; rfl) (by kernel_rfl) (by kernel_rfl) (by kernel_rfl) (by exact fun _ _ _ h => h) (y_move (by kernel_rfl) _ rfl _ rfl) hS ?_
  try simp only [Act.put, List.setIfInBounds_toArray, List.set_cons_zero, List.set_cons_succ]
  refine wpAnyH_take (i := 1) (v := (.pointer (some ⟨g, 0, none⟩))) (by simp only [List.getElem?_toArray, List.getElem?_cons_zero, List.getElem?_cons_succ]; rfl) (by kernel_rfl) (by kernel_rfl) (by kernel_rfl) (by exact fun _ _ _ h => h) (y_nil (by kernel_rfl) _ rfl _ rfl) hS ?_
  try simp only [Act.put, List.setIfInBounds_toArray, List.set_cons_zero, List.set_cons_succ]
  refine wpAnyH_take (i := 2) (v := (.pointer (some ⟨g, 0 + 2, none⟩))) (by simp only [List.getElem?_toArray, List.getElem?_cons_zero, List.getElem?_cons_succ]; rfl) (by kernel_rfl) (by kernel_rfl) (by kernel_rfl) (by exact fun _ _ _ h => h) (y_f_Dev2 (by kernel_rfl) _ rfl _ _ rfl) hS ?_
  try simp only [Act.put, List.setIfInBounds_toArray, List.set_cons_zero, List.set_cons_succ]
  refine wpAnyH_take (i := 3) (v := (.map (some X.m1))) (by simp only [List.getElem?_toArray, List.getElem?_cons_zero, List.getElem?_cons_succ]; rfl) (by kernel_rfl) (by kernel_rfl) (by kernel_rfl) (by exact fun _ _ _ h => h) (y_l_mb (by kernel_rfl) _ rfl _ _ rfl _ (fun u hs => (HB.out.2.1.keep hs.1).at_.2.2.1)) hS ?_
  try simp only [Act.put, List.setIfInBounds_toArray, List.set_cons_zero, List.set_cons_succ]
  refine wpAnyH_take (i := 4) (v := (.pointer (some ⟨w.heap.size, 0 + 1, none⟩))) (by simp only [List.getElem?_toArray, List.getElem?_cons_zero, List.getElem?_cons_succ]; rfl) (by kernel_rfl) (by kernel_rfl) (by kernel_rfl) (by exact fun _ _ _ h => h) (y_f_Req1 (by kernel_rfl) _ rfl _ _ rfl) hS ?_
  try simp only [Act.put, List.setIfInBounds_toArray, List.set_cons_zero, List.set_cons_succ]
  refine wpAnyH_take (i := 5) (v := (.agg (bv key).toArray)) (by simp only [List.getElem?_toArray, List.getElem?_cons_zero, List.getElem?_cons_succ]; rfl) (by kernel_rfl) (by kernel_rfl) (by kernel_rfl) (by exact fun _ _ _ h => h) (y_s_Hash (by kernel_rfl) _ rfl _ _ rfl key HB.out.2.2.2.1.1 (fun u hs => (rq_at u 1 key _ n c tag HB.out.2.2.2.1.1 hs.2).2.1)) hS ?_
  try simp only [Act.put, List.setIfInBounds_toArray, List.set_cons_zero, List.set_cons_succ]
  refine wpAnyH_take (i := 6) (v := (.slice va xx.length vc)) (by simp only [List.getElem?_toArray, List.getElem?_cons_zero, List.getElem?_cons_succ]; rfl) (by kernel_rfl) (by kernel_rfl) (by kernel_rfl) (by exact fun _ _ _ h => h) (y_look (by kernel_rfl) _ _ _ _ rfl _ _ _ rfl rfl (fun u hs => HL.out u hs.1)) hS ?_
  try simp only [Act.put, List.setIfInBounds_toArray, List.set_cons_zero, List.set_cons_succ]
  refine wpAnyH_ready (rs := [7]) (by kernel_rfl) (by simp) ?_
  refine AllReadyH.cons (by simp only [List.getElem?_toArray, List.getElem?_cons_zero, List.getElem?_cons_succ]; rfl) (fun K hK => ?_) AllReadyH.nil
  have HB2 := HB1.out.keep (Below.refl w1.heap.size w1).drew
  go_simp
  refine (bclone_any (HD1.out _ hS.1).vb).mono ?_
  rintro _ u2 ⟨bb, rfl, hA⟩
  replace HB2 := HB2.keep hA.below
  obtain ⟨ua, uc, eu⟩ := hA.form
  subst eu
  have hown := own_rebase hA.own (C := w.heap.size) (fun b hb => Nat.le_trans hS.1.size (hA.own.lt b hb).1)
  refine hK.out _ _ ⟨HB2.below, HB2.rq⟩ (fun hS => ?_)
  clear hA
  clear hK K
  try simp only [Act.put, List.setIfInBounds_toArray, List.set_cons_zero, List.set_cons_succ]
  refine wpAnyH_take (i := 8) (v := (.agg (anc (.slice ua xx.length uc) nilS 0 z32 0).toArray)) (by simp only [List.getElem?_toArray, List.getElem?_cons_zero, List.getElem?_cons_succ]; rfl) (by kernel_rfl) (by kernel_rfl) (by kernel_rfl) (by exact fun _ _ _ h => h) (y_bd (by kernel_rfl) _ _ rfl _ (built74b ua xx.length uc)) hS ?_
  try simp only [Act.put, List.setIfInBounds_toArray, List.set_cons_zero, List.set_cons_succ]
  refine wpAnyH_ready (rs := [9]) (by kernel_rfl) (by simp) ?_
  refine AllReadyH.cons (by simp only [List.getElem?_toArray, List.getElem?_cons_zero, List.getElem?_cons_succ]; rfl) (fun K hK => ?_) AllReadyH.nil
  refine r_stS (by kernel_rfl) 161 _ _ (by rfl) (w.heap.size + 2) (anc (.slice ua xx.length uc) nilS 0 z32 0) (anc nilS nilS 0 z32 0) (i74' z32_len) (by rw [anc_len z32_len, anc_len z32_len]) (anc_one rfl rfl) HB2.an (by rfl) (by rfl) ?_
  have t3 : Turn (fun i => i = w.heap.size + 2) u2 (u2.setRow (w.heap.size + 2) (anc (.slice ua xx.length uc) nilS 0 z32 0).toArray) := Turn.setRow _ _ _ rfl
  have HB3 : Hid (Below w.heap.size w (u2.setRow (w.heap.size + 2) (anc (.slice ua xx.length uc) nilS 0 z32 0).toArray) ∧ (u2.setRow (w.heap.size + 2) (anc (.slice ua xx.length uc) nilS 0 z32 0).toArray).heap[w.heap.size + 2]? = some (.cells (anc (.slice ua xx.length uc) nilS 0 z32 0).toArray 161 (0, 0)) ∧ (u2.setRow (w.heap.size + 2) (anc (.slice ua xx.length uc) nilS 0 z32 0).toArray).ownsRow w.heap.size 5 1 (.slice ua xx.length uc) xx.length (bv xx)) :=
    ⟨below_setRow HB2.below (by omega) _, setRow_heap' HB2.an, own_turn hown t3 (fun b hb e => own_ne_cells hown (e ▸ HB2.an) (by decide) hb)⟩
  refine hK.out _ _ ⟨HB3.out.1, rng_same HB2.rq (t3.block _ (rng_lt HB2.rq (by rw [rqc_len HB.out.2.2.2.1.1 HB.out.2.2.2.2]; decide)) (by omega))⟩ (fun _ => ?_)
  clear t3 hown HB2 hS
  clear hK K
  try simp only [Act.put]
  refine wpAnyH_done (by kernel_rfl) ?_ _
  clear HL HD1
  go_wp2_with fail
  have exx := HXX.out
  subst exx
  exact bodyPost_ret (res74 rfl _ _ (w.heap.size + 2) z32_len (rng_row HB3.out.2.1) rfl) rfl ⟨_, rfl, HB3.out.2.2, HB3.out.1⟩
set_option maxRecDepth 100000 in
set_option maxHeartbeats 6400000 in
theorem honest_5 {w : World} {F : Nat → Prop} {g : Nat} {s : Dst} {X : Dx} (hd : Db w g (X.dvf s)) (h : Dr w F s X) {key : List Nat} (hk : IsH key) {ba : Option Addr} {m bc : Nat} {n c : Int} {tag : List Nat} (ht : tag.length = 32) (ck cn cm : Int) :
    Calls Tryz.prog 158 #[.pointer (some ⟨g, 0, none⟩), .agg (rqc 5 key (.slice ba m bc) n c tag).toArray, .agg #[.int .i64 ck, .int .i64 cn, .int .i64 cm]] w fun e w' => ∃ b, e = .returned (.agg (anc b nilS 0 z32 0).toArray) ∧ w'.ownsRow w.heap.size 5 1 b (s.log).length (bv (s.log)) ∧ Below w.heap.size w w' := by
  obtain ⟨W, eW⟩ : ∃ W, W = ((w.alloc (.cells (rqc 5 key (.slice ba m bc) n c tag).toArray 164)).alloc (.cells #[.int .i64 ck, .int .i64 cn, .int .i64 cm] 152)).alloc (.cells (anc nilS nilS 0 z32 0).toArray 161) := ⟨_, rfl⟩
  have hb : Hb w W 5 key (.slice ba m bc) n c tag := by rw [eW]; exact hb_new _ _ _ _ _ _ _ _
  have HB : Hid (Hb w W 5 key (.slice ba m bc) n c tag ∧ Db w g (X.dvf s) ∧ Dr w F s X ∧ IsH key ∧ tag.length = 32) := ⟨hb, hd, h, hk, ht⟩
  have HI : Hid ((Tryz.prog.info? 164).map (·.size) = some (rqc 5 key (.slice ba m bc) n c tag).length) := i77' hk.1 ht
  have hz := zv74
  have HRF : Hid (Calls Tryz.prog 200 #[.pointer (some ⟨g, 0, none⟩), .agg (rqc 5 key (.slice ba m bc) n c tag).toArray] W fun e w' => e = .returned (.int .i64 (refu s 5 key m)) ∧ Below W.heap.size W w') := refusal_5 (hd.keep hb.below) (h.keep hb.below) hk
  have hgn : g < w.heap.size := hd.lt
  have HRQ : Hid (W.rangeAt w.heap.size 0 (rqc 5 key (.slice ba m bc) n c tag)) := hb.rq
  obtain ⟨L, eL⟩ : ∃ L, L = rqc 5 key (.slice ba m bc) n c tag := ⟨_, rfl⟩
  obtain ⟨Z, eZ⟩ : ∃ Z, Z = anc nilS nilS 0 z32 0 := ⟨_, rfl⟩
  rw [← eL] at eW HI HRF HRQ ⊢
  rw [← eZ] at eW hz
  rw [eW] at HRF HRQ
  clear hd h hb hk eL eZ
  go_enter Tryz.func158, Tryz.ntmps158
  go_wp2_with (first
    | refine wpList_load_mid_g (by kernel_rfl) 164 _ (by rfl) w.heap.size 0 (by rfl) L _ HRQ.out Tryz.underlying164 rfl HI.out ?_
    | (go_at_call 200; refine HRF.out.mono ?_))
  rintro _ w1 ⟨rfl, hb1⟩
  rw [← eW] at hb1
  have HB1 : Hid (Hb w w1 5 key (.slice ba m bc) n c tag) := HB.out.1.keep hb1
  obtain ⟨q0, _, q33, _⟩ := rq_at w1 5 key (.slice ba m bc) n c tag HB.out.2.2.2.1.1 HB1.out.rq
  have hr5 : refu s 5 key m = 0 := rfl
  rw [hr5]
  clear hb1 HRF HRQ hr5 q33
  have HD1 : Hid (Dat w1 F X.lg s.log) := (HB.out.2.2.1.keep HB1.out.below).lg
  obtain ⟨va, vc, ev⟩ := own_slice HD1.out.own
  obtain ⟨c0, c1, c2, c3, _⟩ := (HB.out.2.1.keep HB1.out.below).at_
  have c3' : w1.cell? ⟨g, 3, none⟩ = some (.slice va s.log.length vc) := by rw [← ev]; exact c3
  have HCL : Hid (Calls Tryz.prog 63 #[.slice va s.log.length vc] w1 fun e w' => ∃ u, e = .returned u ∧ Ans w1 w' u s.log) := by rw [← ev]; exact bclone_any HD1.out.vb
  obtain ⟨ll, ell⟩ : ∃ y, y = s.log := ⟨_, rfl⟩
  have HLL : Hid (ll = s.log) := ell
  rw [← ell] at c3' HCL
  clear c0 c1 c2 c3 ev HD1 ell
  go_wp2_with (go_at_call 63; refine HCL.out.mono ?_)
  rintro _ w2 ⟨u, rfl, hA⟩
  have HB2 : Hid (Hb w w2 5 key (.slice ba m bc) n c tag) := HB1.out.keep hA.below
  obtain ⟨ua, uc, eu⟩ := hA.form
  subst eu
  have HOW : Hid (w2.ownsRow w.heap.size 5 1 (.slice ua ll.length uc) ll.length (bv ll)) := own_rebase hA.own (C := w.heap.size) (fun b hb => Nat.le_trans HB1.out.below.size (hA.own.lt b hb).1)
  obtain ⟨kn, ekn⟩ : ∃ k, k = ll.length := ⟨_, rfl⟩
  have HKN : Hid (kn = ll.length) := ekn
  rw [← ekn] at HOW
  have e0 : (Value.slice ua ll.length uc) = .slice ua kn uc := by rw [ekn]
  rw [e0]
  have bd := built74b ua kn uc
  have o1 : (anc (.slice ua kn uc) nilS 0 z32 0).toArray.all (·.oneCell') = true := anc_one rfl rfl
  have HL : Hid ((Tryz.prog.info? 161).map (·.size) = some (anc (.slice ua kn uc) nilS 0 z32 0).length ∧ (anc (.slice ua kn uc) nilS 0 z32 0).length = (anc nilS nilS 0 z32 0).length) := ⟨i74' z32_len, by rw [anc_len z32_len, anc_len z32_len]⟩
  clear hA HCL ekn c3' q0 e0
  go_wp2_with (first
    | refine wpList_bdL (by kernel_rfl) _ _ (by rfl) _ bd ?_
    | refine wpList_stB (by kernel_rfl) _ _ _ (by rfl) (w.heap.size + 2) (anc (.slice ua kn uc) nilS 0 z32 0) (anc nilS nilS 0 z32 0) HL.out.1 HL.out.2 o1 HB2.out.an (by rfl) (by rfl) ?_)
  have hr := setRow_heap' (cs' := (anc (.slice ua kn uc) nilS 0 z32 0).toArray) HB2.out.an
  have t3 : Turn (fun i => i = w.heap.size + 2) w2 (w2.setRow (w.heap.size + 2) (anc (.slice ua kn uc) nilS 0 z32 0).toArray) := Turn.setRow _ _ _ rfl
  have ekn := HKN.out
  have ell := HLL.out
  subst ekn
  subst ell
  exact bodyPost_ret (res74 rfl _ _ (w.heap.size + 2) z32_len (rng_row hr) rfl) rfl ⟨_, rfl, own_turn HOW.out t3 (fun b hb e => own_ne_cells HOW.out (e ▸ HB2.out.an) (by decide) hb), below_setRow HB2.out.below (by omega) _⟩
end Go.Proofs.YtpmdjopojcgpeaaGreatDoor
