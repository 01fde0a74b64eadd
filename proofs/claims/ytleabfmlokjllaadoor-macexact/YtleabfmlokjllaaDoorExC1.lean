/-
  MacExact: a step that begins a code.
-/
import Derived.Test.YtleabfmlokjllaaDoorExC
namespace Go.Proofs.YtleabfmlokjllaaDoor
open Go.RowKit

set_option maxRecDepth 100000 in
set_option maxHeartbeats 4000000 in
theorem plays_k1 (B0 : Nat) (w : World) (T c L : Nat) (K : Nat → Ks) (h : Tb B0 w T c L K) (which : Int) (wh : Nat) (hwh : which % 3 = (wh : Int)) (a : Option Addr) (bb bo n cc : Nat) (Z : Nat → Nat) (hv : View w a bb bo (min n 400) (fun i => (Z i : Int))) (hZ : ∀ i, Z i < 256) (hnil : a = none → cc = 0) (hcc : n ≤ cc)
    (hfar : 0 < n → bb ≠ T ∧ ∀ j, j < c → bb ≠ (K j).p) (hG : Gr w) (hc : wh ≤ c) (hc3 : c ≤ 3) :
    Calls Tryd.prog 15 #[.pointer (some ⟨T, 0, none⟩), .agg #[.int .i64 1, .int .i64 which, .slice a n cc]] w fun e w' => e = .returned (.bool true) ∧ ∃ K', Tb B0 w' T (max c (wh + 1)) (L + 400) K' ∧ Below B0 w w' := by
  have hw3 : wh < 3 := by omega
  have hwi : (wh : Int) < 3 := by omega
  have r := rest_eq which 3 (by decide)
  rw [hwh] at r
  have rb1 : -3 < which.tmod 3 := Int.lt_tmod_of_pos which (by decide)
  have rb2 : which.tmod 3 < 3 := Int.tmod_lt_of_pos which (by decide)
  have tlt := h.lt
  have lo := h.loT
  clear hwh
  by_cases hn : n ≤ 400
  · have v1 : View w a bb bo n (fun i => (Z i : Int)) := ⟨fun h0 => hv.at_ (by omega), fun i hi => hv.cell i (by omega), fun i hi => hv.bd i (by omega), by omega⟩
    have b1 : Below w.heap.size w (w.alloc (.cells #[.int .i64 1, .int .i64 which, .slice a n cc] 49)) := (Below.refl _ _).alloc (Nat.le_refl _) _
    have k1 : (w.alloc (.cells #[.int .i64 1, .int .i64 which, .slice a n cc] 49)).cell? ⟨w.heap.size, 0, none⟩ = some (.int .i64 1) := by rw [cell_of_row _ _ _ _ 49 _ (heap_alloc_new w _)]; rfl
    have cr := roomy_any (w.alloc (.cells #[.int .i64 1, .int .i64 which, .slice a n cc] 49)) a bb bo n cc Z (v1.below b1) hnil (by omega)
    have HH : Hid (Tb B0 w T c L K ∧ View w a bb bo n (fun i => (Z i : Int)) ∧ Gr w ∧ Below w.heap.size w (w.alloc (.cells #[.int .i64 1, .int .i64 which, .slice a n cc] 49)) ∧ (w.alloc (.cells #[.int .i64 1, .int .i64 which, .slice a n cc] 49)).cell? ⟨w.heap.size, 0, none⟩ = some (.int .i64 1)) := ⟨h, v1, hG, b1, k1⟩
    have Hfar : Hid (0 < n → bb ≠ T ∧ ∀ j, j < c → bb ≠ (K j).p) := hfar
    have HZ : Hid (∀ i, Z i < 256) := hZ
    have Hnil : Hid (a = none → cc = 0) := hnil
    clear h hv hG v1 b1 k1 hfar hZ hnil
    go_enter Tryd.func15, Tryd.ntmps15
    go_wp2_with fail
    refine cr.mono ?_
    rintro _ w2 ⟨g, cap, rfl, own2, hcap2, hg2, hgl2, hb2⟩
    rw [World.size_alloc] at hg2
    have b02 : Below w.heap.size w w2 := ch HH.out.2.2.2.1 hb2
    have ck : w2.cell? ⟨w.heap.size, 0, none⟩ = some (.int .i64 1) := (hb2.cell (p := ⟨w.heap.size, 0, none⟩) (by show w.heap.size < _; simp)).trans HH.out.2.2.2.2
    have HT : Hid (Tb B0 w2 T c L K) := HH.out.1.below b02
    have HI : Hid (InOk w2 g n cap Z) := in_of_own own2 hcap2
    have HV : Hid (View w2 a bb bo n (fun i => (Z i : Int))) := HH.out.2.1.below b02
    have HW : Hid (Below B0 w w2) := b02.mono (by omega)
    have HGr : Hid (Gr w2) := HH.out.2.2.1.below b02
    have HOg : Hid (T ≠ g ∧ ∀ j, j < c → Off g (K j)) := ⟨by omega, HH.out.1.off_new g (by omega)⟩
    have hbb : 0 < n → bb < w.heap.size := fun h0 => HH.out.2.1.lt h0
    clear own2 hb2 b02 cr HH
    go_wp2_with fail
    have bd2 : Below w2.heap.size w2 w2.drew := (Below.refl _ _).drew
    have cn := mnew_any w2.drew (some ⟨g, 0, none⟩) g 0 n cap Z ((HI.out.head HZ.out (by omega)).below bd2) (by have := HI.out.cap; omega) HZ.out (HGr.out.below bd2).g
    clear bd2 ck
    refine wp_region_held_drew (S := fun _ => True) (by kernel_rfl) trivial ?_
    intro hS
    change wpAnyH _ _ _ _ _ 8 _ _ _
    refine wpAnyH_take (i := 0) (v := ?_) (by simp only [List.getElem?_toArray, List.getElem?_cons_zero]; rfl) (by kernel_rfl) (by kernel_rfl) (by kernel_rfl) (by exact fun _ _ _ h => h) (Or.inl ⟨by rfl, ?_⟩) trivial ?_
    rotate_left
    · intro w' _
      go_simp
      try with_reducible rfl
    refine wpAnyH_take (i := 1) (v := ?_) (by simp only [List.getElem?_toArray, List.getElem?_cons_zero, List.getElem?_cons_succ]; rfl) (by kernel_rfl) (by kernel_rfl) (by kernel_rfl) (by exact fun _ _ _ h => h) (Or.inl ⟨by rfl, ?_⟩) trivial ?_
    rotate_left
    · intro w' _
      go_simp
      try with_reducible rfl
    refine wpAnyH_take (i := 2) (v := ?_) (by simp only [List.getElem?_toArray, List.getElem?_cons_zero, List.getElem?_cons_succ]; rfl) (by kernel_rfl) (by kernel_rfl) (by kernel_rfl) (by exact fun _ _ _ h => h) (Or.inl ⟨by rfl, ?_⟩) trivial ?_
    rotate_left
    · intro w' _
      go_simp
      try with_reducible rfl
    refine wpAnyH_take (i := 4) (v := ?_) (by simp only [List.getElem?_toArray, List.getElem?_cons_zero, List.getElem?_cons_succ]; rfl) (by kernel_rfl) (by kernel_rfl) (by kernel_rfl) (by exact fun _ _ _ h => h) (Or.inl ⟨by rfl, ?_⟩) trivial ?_
    rotate_left
    · intro w' _
      go_simp
      try with_reducible rfl
    refine wpAnyH_take (i := 5) (v := ?_) (by simp only [List.getElem?_toArray, List.getElem?_cons_zero, List.getElem?_cons_succ]; rfl) (by kernel_rfl) (by kernel_rfl) (by kernel_rfl) (by exact fun _ _ _ h => h) (Or.inl ⟨by rfl, ?_⟩) trivial ?_
    rotate_left
    · intro w' _
      go_simp
      try with_reducible rfl
    refine wpAnyH_ready (rs := [3]) (by kernel_rfl) (by simp) ?_
    refine AllReadyH.cons (by simp only [List.getElem?_toArray, List.getElem?_cons_zero, List.getElem?_cons_succ]; rfl) (fun K' hK => ?_) AllReadyH.nil
    go_simp
    refine cn.mono ?_
    rintro _ w3 ⟨q, rfl, hq, kd3, hb3⟩
    have b23 : Below w2.heap.size w2 w3 := Below.trans (Below.drew (Below.refl _ _)) hb3
    obtain ⟨f, hr3, hf3⟩ := (HT.out.below b23).row
    have ct := hr3.cell (i := wh) (by omega)
    have cf := hr3.frozen wh
    have H3 : Hid (Kd w3 q (blk n Z) 0 (fun _ => 0) ∧ Below w2.heap.size w2 w3 ∧ w2.heap.size ≤ q ∧ w3.rowIs T 46 9 f ∧ ∀ j, j < c → Cells f j (K j)) := ⟨kd3, b23, hq, hr3, hf3⟩
    refine hK.out _ _ trivial (fun _ => ?_)
    clear hK K' kd3 hb3 b23 cn hr3 hf3
    refine wpAnyH_take (i := 6) (v := ?_) (by simp only [List.getElem?_toArray, List.getElem?_cons_zero, List.getElem?_cons_succ]; rfl) (by kernel_rfl) (by kernel_rfl) (by kernel_rfl) (by exact fun _ _ _ h => h) (Or.inl ⟨by rfl, ?_⟩) trivial ?_
    rotate_left
    · intro w' _
      go_simp
      try with_reducible rfl
    refine wpAnyH_ready (rs := [7]) (by kernel_rfl) (by simp) ?_
    refine AllReadyH.cons (by simp only [List.getElem?_toArray, List.getElem?_cons_zero, List.getElem?_cons_succ]; rfl) (fun K' hK => ?_) AllReadyH.nil
    go_simp
    refine hK.out _ _ trivial (fun _ => ?_)
    clear hK K'
    refine wpAnyH_done (by kernel_rfl) ?_ _
    have s4 : Save T w3 (w3.setCell ⟨T, wh, none⟩ (.pointer (some ⟨q, 0, none⟩))) := (Save.refl _ _).setCell _ _
    have r4 : (w3.setCell ⟨T, wh, none⟩ (.pointer (some ⟨q, 0, none⟩))).rowIs T 46 9 (fun i => if i = wh then .pointer (some ⟨q, 0, none⟩) else f i) := H3.out.2.2.2.1.set wh _
    have z4 : (w3.setCell ⟨T, wh, none⟩ (.pointer (some ⟨q, 0, none⟩))).heap.size = w3.heap.size := by simp
    clear ct cf
    revert s4 r4 z4
    generalize w3.setCell ⟨T, wh, none⟩ (.pointer (some ⟨q, 0, none⟩)) = w4
    intro s4 r4 z4'
    have z4 : Hid (w4.heap.size = w3.heap.size) := z4'
    clear z4'
    have z23 := H3.out.2.1.size
    have ltq := H3.out.1.lt
    have gle := HI.out.lt
    have H4 : Hid (Save T w3 w4 ∧ w4.rowIs T 46 9 (fun i => if i = wh then .pointer (some ⟨q, 0, none⟩) else f i)) := ⟨s4, r4⟩
    have own0 := World.ownsRow_lit (base := w4.drew.heap.size) (e := 5) (size := 1) w4.drew #[] 0 (Nat.le_refl _) (by decide) rfl
    have HV4 : Hid (View w4 a bb bo n (fun i => (Z i : Int))) := (HV.out.below H3.out.2.1).save s4 (fun h0 => (Hfar.out (by omega)).1)
    have HV5 : Hid (View (w4.drew.alloc (.cells #[] 5)) a bb bo n (fun i => (Z i : Int))) := HV4.out.below (((Below.refl _ _).drew).alloc (Nat.le_refl _) _)
    clear s4 r4
    go_wp2_with fail
    refine wp_region_held_drew (S := fun _ => True) (by kernel_rfl) trivial ?_
    intro hS
    change wpAnyH _ _ _ _ _ 10 _ _ _
    refine wpAnyH_take (i := 0) (v := ?_) (by simp only [List.getElem?_toArray, List.getElem?_cons_zero]; rfl) (by kernel_rfl) (by kernel_rfl) (by kernel_rfl) (by exact fun _ _ _ h => h) (Or.inl ⟨by rfl, ?_⟩) trivial ?_
    rotate_left
    · intro w' _
      go_simp
      try with_reducible rfl
    refine wpAnyH_take (i := 1) (v := ?_) (by simp only [List.getElem?_toArray, List.getElem?_cons_zero, List.getElem?_cons_succ]; rfl) (by kernel_rfl) (by kernel_rfl) (by kernel_rfl) (by exact fun _ _ _ h => h) (Or.inl ⟨by rfl, ?_⟩) trivial ?_
    rotate_left
    · intro w' _
      go_simp
      try with_reducible rfl
    refine wpAnyH_take (i := 3) (v := ?_) (by simp only [List.getElem?_toArray, List.getElem?_cons_zero, List.getElem?_cons_succ]; rfl) (by kernel_rfl) (by kernel_rfl) (by kernel_rfl) (by exact fun _ _ _ h => h) (Or.inl ⟨by rfl, ?_⟩) trivial ?_
    rotate_left
    · intro w' _
      go_simp
      try with_reducible rfl
    refine wpAnyH_take (i := 6) (v := ?_) (by simp only [List.getElem?_toArray, List.getElem?_cons_zero, List.getElem?_cons_succ]; rfl) (by kernel_rfl) (by kernel_rfl) (by kernel_rfl) (by exact fun _ _ _ h => h) (Or.inl ⟨by rfl, ?_⟩) trivial ?_
    rotate_left
    · intro w' _
      go_simp
      try with_reducible rfl
    refine wpAnyH_take (i := 7) (v := ?_) (by simp only [List.getElem?_toArray, List.getElem?_cons_zero, List.getElem?_cons_succ]; rfl) (by kernel_rfl) (by kernel_rfl) (by kernel_rfl) (by exact fun _ _ _ h => h) (Or.inl ⟨by rfl, ?_⟩) trivial ?_
    rotate_left
    · intro w' _
      go_simp
      try with_reducible rfl
    refine wpAnyH_ready (rs := [2]) (by kernel_rfl) (by simp) ?_
    refine AllReadyH.cons (by simp only [List.getElem?_toArray, List.getElem?_cons_zero, List.getElem?_cons_succ]; rfl) (fun K' hK => ?_) AllReadyH.nil
    go_simp
    refine hK.out _ _ trivial (fun _ => ?_)
    clear hK K'
    refine wpAnyH_ready (rs := [4]) (by kernel_rfl) (by simp) ?_
    refine AllReadyH.cons (by simp only [List.getElem?_toArray, List.getElem?_cons_zero, List.getElem?_cons_succ]; rfl) (fun K' hK => ?_) AllReadyH.nil
    refine step_append_bytes (by rfl) (.tmp 38) (.tmp 39) (by rfl) w4.drew.heap.size _ 0 [] (by rfl) own0 a bb bo n cc _ (by rfl) HV5.out Hnil.out (by omega) (by simp) ?_
    intro v5 w5 own5 gr5 nn5
    have b45 : Below w4.heap.size w4 w5 := (((Below.refl _ _).drew).alloc (Nat.le_refl _) _).trans (grown_below gr5 own0 (Nat.le_refl _) (by simp))
    replace own5 : w5.ownsRow w4.heap.size 5 1 v5 n (vals (fun i => (Z i : Int)) n) := by simpa using own5
    obtain ⟨g5, c5, rfl, hc5, hB5, hl5⟩ := own_some own5 (fun e => by have := nn5 e; simp at this)
    have v5 := own_view own5 (fun i _ => by have := HZ.out i; omega) (by omega)
    have r5 : w5.rowIs T 46 9 (fun i => if i = wh then .pointer (some ⟨q, 0, none⟩) else f i) := H4.out.2.of_block (b45.block _ (by have := z4.out; omega))
    have c1 := r5.cell (i := 3 + wh * 2) (by omega)
    have c2 := r5.cell (i := 3 + wh * 2 + 1) (by omega)
    have d1 := r5.frozen (3 + wh * 2)
    have d2 := r5.frozen (3 + wh * 2 + 1)
    have H5 : Hid (Below w4.heap.size w4 w5 ∧ View w5 (some ⟨g5, 0, none⟩) g5 0 n (fun i => (Z i : Int)) ∧ w5.rowIs T 46 9 (fun i => if i = wh then .pointer (some ⟨q, 0, none⟩) else f i)) := ⟨b45, v5, r5⟩
    refine hK.out _ _ trivial (fun _ => ?_)
    clear hK K' own0 gr5 nn5 own5 b45 v5 r5 HV5
    refine wpAnyH_take (i := 5) (by simp only [List.getElem?_toArray, List.getElem?_cons_zero, List.getElem?_cons_succ]; rfl) (by kernel_rfl) (by kernel_rfl) (by kernel_rfl) (by exact fun _ _ _ h => h) (yieldsIf_build (by rfl) _ _ rfl _ (by simp only [List.map_toArray, List.map_cons, List.map_nil]; exact (built43 _ _ _))) trivial ?_
    refine wpAnyH_take (i := 8) (v := ?_) (by simp only [List.getElem?_toArray, List.getElem?_cons_zero, List.getElem?_cons_succ]; rfl) (by kernel_rfl) (by kernel_rfl) (by kernel_rfl) (by exact fun _ _ _ h => h) (Or.inl ⟨by rfl, ?_⟩) trivial ?_
    rotate_left
    · intro w' _
      go_simp
      try with_reducible rfl
    refine wpAnyH_ready (rs := [9]) (by kernel_rfl) (by simp) ?_
    refine AllReadyH.cons (by simp only [List.getElem?_toArray, List.getElem?_cons_zero, List.getElem?_cons_succ]; rfl) (fun K' hK => ?_) AllReadyH.nil
    go_simp
    refine hK.out _ _ trivial (fun _ => ?_)
    clear hK K' c1 c2 d1 d2
    refine wpAnyH_done (by kernel_rfl) ?_ _
    have s6 : Save T w5 ((w5.setCell ⟨T, 3 + wh * 2, none⟩ (.slice (some ⟨g5, 0, none⟩) n c5)).setCell ⟨T, 3 + wh * 2 + 1, none⟩ (.slice none 0 0)) := ((Save.refl _ _).setCell _ _).setCell _ _
    have r6 : ((w5.setCell ⟨T, 3 + wh * 2, none⟩ (.slice (some ⟨g5, 0, none⟩) n c5)).setCell ⟨T, 3 + wh * 2 + 1, none⟩ (.slice none 0 0)).rowIs T 46 9 (fun i => if i = 3 + wh * 2 + 1 then .slice none 0 0 else if i = 3 + wh * 2 then .slice (some ⟨g5, 0, none⟩) n c5 else if i = wh then .pointer (some ⟨q, 0, none⟩) else f i) := (H5.out.2.2.set _ _).set _ _
    revert s6 r6
    generalize (w5.setCell ⟨T, 3 + wh * 2, none⟩ (.slice (some ⟨g5, 0, none⟩) n c5)).setCell ⟨T, 3 + wh * 2 + 1, none⟩ (.slice none 0 0) = w6
    intro s6 r6
    have z45 := H5.out.1.size
    have z46 := s6.size
    have fz4 := z4.out
    have lt2 := HT.out.lt
    have qge := H3.out.2.2.1
    have w02 := HW.out.size
    have gw := HI.out.lt
    have hb6 : ∀ k, k < w3.heap.size → k ≠ T → w6.heap[k]? = w3.heap[k]? := fun k hk hT => ((s6.block k (by omega) hT).trans (H5.out.1.block k (by omega))).trans (H4.out.1.block k hk hT)
    have hb62 : ∀ k, k < w2.heap.size → k ≠ T → w6.heap[k]? = w2.heap[k]? := fun k hk hT => (hb6 k (by omega) hT).trans (H3.out.2.1.block k hk)
    have e6 : Ent w6 ⟨q, some ⟨g5, 0, none⟩, g5, n, c5, Z, none, 0, 0, 0, fun _ => 0⟩ := ⟨⟨H3.out.1.st.of_block (hb6 q ltq (by omega)), H3.out.1.bd, H3.out.1.bx⟩, H5.out.2.1.save s6 (fun _ => by omega), view_empty _ _ _ _ _ _ rfl, HZ.out, hc5, (fun h => by cases h), Nat.le_refl _, fun _ => rfl⟩
    have t6 := HT.out.turn (x := T) (L' := L + 400) (k' := ⟨q, some ⟨g5, 0, none⟩, g5, n, c5, Z, none, 0, 0, 0, fun _ => 0⟩) wh hw3 hc (fun k hk hT _ => hb62 k hk hT) (fun j hj _ => HT.out.off j hj) H3.out.2.2.2.2 r6
      (fun j hj h1 h2 h3 => by rw [if_neg (by omega), if_neg (by omega), if_neg h1]) ⟨by dsimp only; rw [if_neg (by omega), if_neg (by omega), if_pos rfl], by dsimp only; rw [if_neg (by omega), if_pos (by omega)], by dsimp only; rw [if_pos (by omega)]⟩ hc3 e6 (by show B0 ≤ q; omega) ⟨by show q ≠ T; omega, (fun _ => by show g5 ≠ T; omega), fun h0 => absurd h0 (by show ¬ 0 < 0; omega)⟩
      (fun j hj _ => ⟨HT.out.off_new q (by omega) j hj, (fun h0 => by show g5 ≠ (K j).p; have := HT.out.ltp j hj; omega), fun h0 => absurd h0 (by show ¬ 0 < 0; omega)⟩) ⟨(fun h0 => by show g5 ≠ q; omega), fun h0 => absurd h0 (by show ¬ 0 < 0; omega)⟩ ⟨by show n ≤ 400; omega, Nat.zero_le _⟩ (by omega)
    have og6 : T ≠ g ∧ ∀ j, j < max c (wh + 1) → Off g (upk K wh ⟨q, some ⟨g5, 0, none⟩, g5, n, c5, Z, none, 0, 0, 0, fun _ => 0⟩ j) := ⟨HOg.out.1, fun j hj => by
      by_cases e : j = wh
      · rw [e, upk_at]
        exact ⟨by show q ≠ g; omega, (fun _ => by show g5 ≠ g; omega), fun h0 => absurd h0 (by show ¬ 0 < 0; omega)⟩
      · rw [upk_ne e]
        exact HOg.out.2 j (by omega)⟩
    have bw6 : Below B0 w w6 := HW.out.trans ⟨s6.os.trans (H5.out.1.os.trans (H4.out.1.os.trans H3.out.2.1.os)), s6.tape.trans (H5.out.1.tape.trans (H4.out.1.tape.trans H3.out.2.1.tape)), s6.output.trans (H5.out.1.output.trans (H4.out.1.output.trans H3.out.2.1.output)), by omega, fun k hk => hb62 k (by have := HW.out.size; omega) (by omega)⟩
    have H6 : Hid (Tb B0 w6 T (max c (wh + 1)) (L + 400) (upk K wh ⟨q, some ⟨g5, 0, none⟩, g5, n, c5, Z, none, 0, 0, 0, fun _ => 0⟩) ∧ InOk w6 g n cap Z ∧ View w6 a bb bo n (fun i => (Z i : Int)) ∧ Below B0 w w6 ∧ T ≠ g ∧ ∀ j, j < max c (wh + 1) → Off g (upk K wh ⟨q, some ⟨g5, 0, none⟩, g5, n, c5, Z, none, 0, 0, 0, fun _ => 0⟩ j)) :=
      ⟨t6, HI.out.of (hb62 g gle (by omega)), ((HV4.out.below H5.out.1).save s6 (fun h0 => (Hfar.out (by omega)).1)), bw6, og6⟩
    have c3 : w6.cell? ⟨T, wh, none⟩ = some (.pointer (some ⟨q, 0, none⟩)) := by rw [r6.cell (i := wh) (by omega), if_neg (by omega), if_neg (by omega), if_pos rfl]
    clear s6 r6 z45 z46 fz4 hb6 hb62 e6 t6 og6 bw6 HT HI HV HV4 HW HOg H3 H4 H5 z4 HGr lt2 qge w02 gw
    go_wp2_with fail
    refine (aswas_yes w6 g cap a bb bo n cc Z H6.out.2.2.1 (H6.out.2.1.view HZ.out (by omega)) H6.out.2.1.cap).mono ?_
    rintro _ w8 ⟨rfl, q8, hw8⟩
    have b8 : Below w6.heap.size w6 w8 := by rw [hw8]; exact below_drewN (Below.refl _ _) q8
    have HT8 : Hid (Tb B0 w8 T (max c (wh + 1)) (L + 400) (upk K wh ⟨q, some ⟨g5, 0, none⟩, g5, n, c5, Z, none, 0, 0, 0, fun _ => 0⟩) ∧ InOk w8 g n cap Z ∧ Below B0 w w8) := ⟨H6.out.1.below b8, H6.out.2.1.below b8, H6.out.2.2.2.1.trans (b8.mono (by have := H6.out.2.2.2.1.size; omega))⟩
    clear hw8 b8
    go_wp2_with fail
    obtain ⟨fi, hri, hfi⟩ := HT8.out.2.1.row
    refine (over_any w8 g n cap cap fi Z hri (fun i hi => by rw [hfi i (by omega)]; unfold cat; rw [if_pos hi]) (fun i _ => HZ.out i) (by have := HT8.out.2.1.cap; omega) (by omega)).mono ?_
    rintro _ w9 ⟨rfl, hs9⟩
    have HF : Hid (Tb B0 w9 T (max c (wh + 1)) (L + 400) (upk K wh ⟨q, some ⟨g5, 0, none⟩, g5, n, c5, Z, none, 0, 0, 0, fun _ => 0⟩) ∧ Below B0 w w9) := ⟨HT8.out.1.keep g (fun k hk hkg => hs9.block k hk hkg) H6.out.2.2.2.2.1 H6.out.2.2.2.2.2, HT8.out.2.2.trans (hs9.below (by omega) (by have := HT8.out.2.2.size; omega))⟩
    clear hs9 hri hfi HT8
    go_wp2_with fail
    go_ret
    exact ⟨rfl, _, HF.out.1, HF.out.2⟩
  · have sl := slice_upto a n cc 400 (by omega)
    have v1 : View w a bb bo 400 (fun i => (Z i : Int)) := ⟨fun h0 => hv.at_ (by omega), fun i hi => hv.cell i (by omega), fun i hi => hv.bd i (by omega), by omega⟩
    have b1 : Below w.heap.size w (w.alloc (.cells #[.int .i64 1, .int .i64 which, .slice a n cc] 49)) := (Below.refl _ _).alloc (Nat.le_refl _) _
    have k1 : (w.alloc (.cells #[.int .i64 1, .int .i64 which, .slice a n cc] 49)).cell? ⟨w.heap.size, 0, none⟩ = some (.int .i64 1) := by rw [cell_of_row _ _ _ _ 49 _ (heap_alloc_new w _)]; rfl
    have cr := roomy_any (w.alloc (.cells #[.int .i64 1, .int .i64 which, .slice a n cc] 49)) a bb bo 400 cc Z (v1.below b1) hnil (by omega)
    have HH : Hid (Tb B0 w T c L K ∧ View w a bb bo 400 (fun i => (Z i : Int)) ∧ Gr w ∧ Below w.heap.size w (w.alloc (.cells #[.int .i64 1, .int .i64 which, .slice a n cc] 49)) ∧ (w.alloc (.cells #[.int .i64 1, .int .i64 which, .slice a n cc] 49)).cell? ⟨w.heap.size, 0, none⟩ = some (.int .i64 1)) := ⟨h, v1, hG, b1, k1⟩
    have Hfar : Hid (0 < n → bb ≠ T ∧ ∀ j, j < c → bb ≠ (K j).p) := hfar
    have HZ : Hid (∀ i, Z i < 256) := hZ
    have Hnil : Hid (a = none → cc = 0) := hnil
    clear h hv hG v1 b1 k1 hfar hZ hnil
    go_enter Tryd.func15, Tryd.ntmps15
    go_wp2_with fail
    refine cr.mono ?_
    rintro _ w2 ⟨g, cap, rfl, own2, hcap2, hg2, hgl2, hb2⟩
    rw [World.size_alloc] at hg2
    have b02 : Below w.heap.size w w2 := ch HH.out.2.2.2.1 hb2
    have ck : w2.cell? ⟨w.heap.size, 0, none⟩ = some (.int .i64 1) := (hb2.cell (p := ⟨w.heap.size, 0, none⟩) (by show w.heap.size < _; simp)).trans HH.out.2.2.2.2
    have HT : Hid (Tb B0 w2 T c L K) := HH.out.1.below b02
    have HI : Hid (InOk w2 g 400 cap Z) := in_of_own own2 hcap2
    have HV : Hid (View w2 a bb bo 400 (fun i => (Z i : Int))) := HH.out.2.1.below b02
    have HW : Hid (Below B0 w w2) := b02.mono (by omega)
    have HGr : Hid (Gr w2) := HH.out.2.2.1.below b02
    have HOg : Hid (T ≠ g ∧ ∀ j, j < c → Off g (K j)) := ⟨by omega, HH.out.1.off_new g (by omega)⟩
    have hbb : 0 < 400 → bb < w.heap.size := fun h0 => HH.out.2.1.lt h0
    clear sl
    clear own2 hb2 b02 cr HH
    go_wp2_with fail
    have bd2 : Below w2.heap.size w2 w2.drew := (Below.refl _ _).drew
    have cn := mnew_any w2.drew (some ⟨g, 0, none⟩) g 0 400 cap Z ((HI.out.head HZ.out (by omega)).below bd2) (by have := HI.out.cap; omega) HZ.out (HGr.out.below bd2).g
    clear bd2 ck
    refine wp_region_held_drew (S := fun _ => True) (by kernel_rfl) trivial ?_
    intro hS
    change wpAnyH _ _ _ _ _ 8 _ _ _
    refine wpAnyH_take (i := 0) (v := ?_) (by simp only [List.getElem?_toArray, List.getElem?_cons_zero]; rfl) (by kernel_rfl) (by kernel_rfl) (by kernel_rfl) (by exact fun _ _ _ h => h) (Or.inl ⟨by rfl, ?_⟩) trivial ?_
    rotate_left
    · intro w' _
      go_simp
      try with_reducible rfl
    refine wpAnyH_take (i := 1) (v := ?_) (by simp only [List.getElem?_toArray, List.getElem?_cons_zero, List.getElem?_cons_succ]; rfl) (by kernel_rfl) (by kernel_rfl) (by kernel_rfl) (by exact fun _ _ _ h => h) (Or.inl ⟨by rfl, ?_⟩) trivial ?_
    rotate_left
    · intro w' _
      go_simp
      try with_reducible rfl
    refine wpAnyH_take (i := 2) (v := ?_) (by simp only [List.getElem?_toArray, List.getElem?_cons_zero, List.getElem?_cons_succ]; rfl) (by kernel_rfl) (by kernel_rfl) (by kernel_rfl) (by exact fun _ _ _ h => h) (Or.inl ⟨by rfl, ?_⟩) trivial ?_
    rotate_left
    · intro w' _
      go_simp
      try with_reducible rfl
    refine wpAnyH_take (i := 4) (v := ?_) (by simp only [List.getElem?_toArray, List.getElem?_cons_zero, List.getElem?_cons_succ]; rfl) (by kernel_rfl) (by kernel_rfl) (by kernel_rfl) (by exact fun _ _ _ h => h) (Or.inl ⟨by rfl, ?_⟩) trivial ?_
    rotate_left
    · intro w' _
      go_simp
      try with_reducible rfl
    refine wpAnyH_take (i := 5) (v := ?_) (by simp only [List.getElem?_toArray, List.getElem?_cons_zero, List.getElem?_cons_succ]; rfl) (by kernel_rfl) (by kernel_rfl) (by kernel_rfl) (by exact fun _ _ _ h => h) (Or.inl ⟨by rfl, ?_⟩) trivial ?_
    rotate_left
    · intro w' _
      go_simp
      try with_reducible rfl
    refine wpAnyH_ready (rs := [3]) (by kernel_rfl) (by simp) ?_
    refine AllReadyH.cons (by simp only [List.getElem?_toArray, List.getElem?_cons_zero, List.getElem?_cons_succ]; rfl) (fun K' hK => ?_) AllReadyH.nil
    go_simp
    refine cn.mono ?_
    rintro _ w3 ⟨q, rfl, hq, kd3, hb3⟩
    have b23 : Below w2.heap.size w2 w3 := Below.trans (Below.drew (Below.refl _ _)) hb3
    obtain ⟨f, hr3, hf3⟩ := (HT.out.below b23).row
    have ct := hr3.cell (i := wh) (by omega)
    have cf := hr3.frozen wh
    have H3 : Hid (Kd w3 q (blk 400 Z) 0 (fun _ => 0) ∧ Below w2.heap.size w2 w3 ∧ w2.heap.size ≤ q ∧ w3.rowIs T 46 9 f ∧ ∀ j, j < c → Cells f j (K j)) := ⟨kd3, b23, hq, hr3, hf3⟩
    refine hK.out _ _ trivial (fun _ => ?_)
    clear hK K' kd3 hb3 b23 cn hr3 hf3
    refine wpAnyH_take (i := 6) (v := ?_) (by simp only [List.getElem?_toArray, List.getElem?_cons_zero, List.getElem?_cons_succ]; rfl) (by kernel_rfl) (by kernel_rfl) (by kernel_rfl) (by exact fun _ _ _ h => h) (Or.inl ⟨by rfl, ?_⟩) trivial ?_
    rotate_left
    · intro w' _
      go_simp
      try with_reducible rfl
    refine wpAnyH_ready (rs := [7]) (by kernel_rfl) (by simp) ?_
    refine AllReadyH.cons (by simp only [List.getElem?_toArray, List.getElem?_cons_zero, List.getElem?_cons_succ]; rfl) (fun K' hK => ?_) AllReadyH.nil
    go_simp
    refine hK.out _ _ trivial (fun _ => ?_)
    clear hK K'
    refine wpAnyH_done (by kernel_rfl) ?_ _
    have s4 : Save T w3 (w3.setCell ⟨T, wh, none⟩ (.pointer (some ⟨q, 0, none⟩))) := (Save.refl _ _).setCell _ _
    have r4 : (w3.setCell ⟨T, wh, none⟩ (.pointer (some ⟨q, 0, none⟩))).rowIs T 46 9 (fun i => if i = wh then .pointer (some ⟨q, 0, none⟩) else f i) := H3.out.2.2.2.1.set wh _
    have z4 : (w3.setCell ⟨T, wh, none⟩ (.pointer (some ⟨q, 0, none⟩))).heap.size = w3.heap.size := by simp
    clear ct cf
    revert s4 r4 z4
    generalize w3.setCell ⟨T, wh, none⟩ (.pointer (some ⟨q, 0, none⟩)) = w4
    intro s4 r4 z4'
    have z4 : Hid (w4.heap.size = w3.heap.size) := z4'
    clear z4'
    have z23 := H3.out.2.1.size
    have ltq := H3.out.1.lt
    have gle := HI.out.lt
    have H4 : Hid (Save T w3 w4 ∧ w4.rowIs T 46 9 (fun i => if i = wh then .pointer (some ⟨q, 0, none⟩) else f i)) := ⟨s4, r4⟩
    have own0 := World.ownsRow_lit (base := w4.drew.heap.size) (e := 5) (size := 1) w4.drew #[] 0 (Nat.le_refl _) (by decide) rfl
    have HV4 : Hid (View w4 a bb bo 400 (fun i => (Z i : Int))) := (HV.out.below H3.out.2.1).save s4 (fun h0 => (Hfar.out (by omega)).1)
    have HV5 : Hid (View (w4.drew.alloc (.cells #[] 5)) a bb bo 400 (fun i => (Z i : Int))) := HV4.out.below (((Below.refl _ _).drew).alloc (Nat.le_refl _) _)
    clear s4 r4
    go_wp2_with fail
    refine wp_region_held_drew (S := fun _ => True) (by kernel_rfl) trivial ?_
    intro hS
    change wpAnyH _ _ _ _ _ 10 _ _ _
    refine wpAnyH_take (i := 0) (v := ?_) (by simp only [List.getElem?_toArray, List.getElem?_cons_zero]; rfl) (by kernel_rfl) (by kernel_rfl) (by kernel_rfl) (by exact fun _ _ _ h => h) (Or.inl ⟨by rfl, ?_⟩) trivial ?_
    rotate_left
    · intro w' _
      go_simp
      try with_reducible rfl
    refine wpAnyH_take (i := 1) (v := ?_) (by simp only [List.getElem?_toArray, List.getElem?_cons_zero, List.getElem?_cons_succ]; rfl) (by kernel_rfl) (by kernel_rfl) (by kernel_rfl) (by exact fun _ _ _ h => h) (Or.inl ⟨by rfl, ?_⟩) trivial ?_
    rotate_left
    · intro w' _
      go_simp
      try with_reducible rfl
    refine wpAnyH_take (i := 3) (v := ?_) (by simp only [List.getElem?_toArray, List.getElem?_cons_zero, List.getElem?_cons_succ]; rfl) (by kernel_rfl) (by kernel_rfl) (by kernel_rfl) (by exact fun _ _ _ h => h) (Or.inl ⟨by rfl, ?_⟩) trivial ?_
    rotate_left
    · intro w' _
      go_simp
      try with_reducible rfl
    refine wpAnyH_take (i := 6) (v := ?_) (by simp only [List.getElem?_toArray, List.getElem?_cons_zero, List.getElem?_cons_succ]; rfl) (by kernel_rfl) (by kernel_rfl) (by kernel_rfl) (by exact fun _ _ _ h => h) (Or.inl ⟨by rfl, ?_⟩) trivial ?_
    rotate_left
    · intro w' _
      go_simp
      try with_reducible rfl
    refine wpAnyH_take (i := 7) (v := ?_) (by simp only [List.getElem?_toArray, List.getElem?_cons_zero, List.getElem?_cons_succ]; rfl) (by kernel_rfl) (by kernel_rfl) (by kernel_rfl) (by exact fun _ _ _ h => h) (Or.inl ⟨by rfl, ?_⟩) trivial ?_
    rotate_left
    · intro w' _
      go_simp
      try with_reducible rfl
    refine wpAnyH_ready (rs := [2]) (by kernel_rfl) (by simp) ?_
    refine AllReadyH.cons (by simp only [List.getElem?_toArray, List.getElem?_cons_zero, List.getElem?_cons_succ]; rfl) (fun K' hK => ?_) AllReadyH.nil
    go_simp
    refine hK.out _ _ trivial (fun _ => ?_)
    clear hK K'
    refine wpAnyH_ready (rs := [4]) (by kernel_rfl) (by simp) ?_
    refine AllReadyH.cons (by simp only [List.getElem?_toArray, List.getElem?_cons_zero, List.getElem?_cons_succ]; rfl) (fun K' hK => ?_) AllReadyH.nil
    refine step_append_bytes (by rfl) (.tmp 38) (.tmp 39) (by rfl) w4.drew.heap.size _ 0 [] (by rfl) own0 a bb bo 400 cc _ (by rfl) HV5.out Hnil.out (by omega) (by simp) ?_
    intro v5 w5 own5 gr5 nn5
    have b45 : Below w4.heap.size w4 w5 := (((Below.refl _ _).drew).alloc (Nat.le_refl _) _).trans (grown_below gr5 own0 (Nat.le_refl _) (by simp))
    replace own5 : w5.ownsRow w4.heap.size 5 1 v5 400 (vals (fun i => (Z i : Int)) 400) := by simpa using own5
    obtain ⟨g5, c5, rfl, hc5, hB5, hl5⟩ := own_some own5 (fun e => by have := nn5 e; simp at this)
    have v5 := own_view own5 (fun i _ => by have := HZ.out i; omega) (by omega)
    have r5 : w5.rowIs T 46 9 (fun i => if i = wh then .pointer (some ⟨q, 0, none⟩) else f i) := H4.out.2.of_block (b45.block _ (by have := z4.out; omega))
    have c1 := r5.cell (i := 3 + wh * 2) (by omega)
    have c2 := r5.cell (i := 3 + wh * 2 + 1) (by omega)
    have d1 := r5.frozen (3 + wh * 2)
    have d2 := r5.frozen (3 + wh * 2 + 1)
    have H5 : Hid (Below w4.heap.size w4 w5 ∧ View w5 (some ⟨g5, 0, none⟩) g5 0 400 (fun i => (Z i : Int)) ∧ w5.rowIs T 46 9 (fun i => if i = wh then .pointer (some ⟨q, 0, none⟩) else f i)) := ⟨b45, v5, r5⟩
    refine hK.out _ _ trivial (fun _ => ?_)
    clear hK K' own0 gr5 nn5 own5 b45 v5 r5 HV5
    refine wpAnyH_take (i := 5) (by simp only [List.getElem?_toArray, List.getElem?_cons_zero, List.getElem?_cons_succ]; rfl) (by kernel_rfl) (by kernel_rfl) (by kernel_rfl) (by exact fun _ _ _ h => h) (yieldsIf_build (by rfl) _ _ rfl _ (by simp only [List.map_toArray, List.map_cons, List.map_nil]; exact (built43 _ _ _))) trivial ?_
    refine wpAnyH_take (i := 8) (v := ?_) (by simp only [List.getElem?_toArray, List.getElem?_cons_zero, List.getElem?_cons_succ]; rfl) (by kernel_rfl) (by kernel_rfl) (by kernel_rfl) (by exact fun _ _ _ h => h) (Or.inl ⟨by rfl, ?_⟩) trivial ?_
    rotate_left
    · intro w' _
      go_simp
      try with_reducible rfl
    refine wpAnyH_ready (rs := [9]) (by kernel_rfl) (by simp) ?_
    refine AllReadyH.cons (by simp only [List.getElem?_toArray, List.getElem?_cons_zero, List.getElem?_cons_succ]; rfl) (fun K' hK => ?_) AllReadyH.nil
    go_simp
    refine hK.out _ _ trivial (fun _ => ?_)
    clear hK K' c1 c2 d1 d2
    refine wpAnyH_done (by kernel_rfl) ?_ _
    have s6 : Save T w5 ((w5.setCell ⟨T, 3 + wh * 2, none⟩ (.slice (some ⟨g5, 0, none⟩) 400 c5)).setCell ⟨T, 3 + wh * 2 + 1, none⟩ (.slice none 0 0)) := ((Save.refl _ _).setCell _ _).setCell _ _
    have r6 : ((w5.setCell ⟨T, 3 + wh * 2, none⟩ (.slice (some ⟨g5, 0, none⟩) 400 c5)).setCell ⟨T, 3 + wh * 2 + 1, none⟩ (.slice none 0 0)).rowIs T 46 9 (fun i => if i = 3 + wh * 2 + 1 then .slice none 0 0 else if i = 3 + wh * 2 then .slice (some ⟨g5, 0, none⟩) 400 c5 else if i = wh then .pointer (some ⟨q, 0, none⟩) else f i) := (H5.out.2.2.set _ _).set _ _
    revert s6 r6
    generalize (w5.setCell ⟨T, 3 + wh * 2, none⟩ (.slice (some ⟨g5, 0, none⟩) 400 c5)).setCell ⟨T, 3 + wh * 2 + 1, none⟩ (.slice none 0 0) = w6
    intro s6 r6
    have z45 := H5.out.1.size
    have z46 := s6.size
    have fz4 := z4.out
    have lt2 := HT.out.lt
    have qge := H3.out.2.2.1
    have w02 := HW.out.size
    have gw := HI.out.lt
    have hb6 : ∀ k, k < w3.heap.size → k ≠ T → w6.heap[k]? = w3.heap[k]? := fun k hk hT => ((s6.block k (by omega) hT).trans (H5.out.1.block k (by omega))).trans (H4.out.1.block k hk hT)
    have hb62 : ∀ k, k < w2.heap.size → k ≠ T → w6.heap[k]? = w2.heap[k]? := fun k hk hT => (hb6 k (by omega) hT).trans (H3.out.2.1.block k hk)
    have e6 : Ent w6 ⟨q, some ⟨g5, 0, none⟩, g5, 400, c5, Z, none, 0, 0, 0, fun _ => 0⟩ := ⟨⟨H3.out.1.st.of_block (hb6 q ltq (by omega)), H3.out.1.bd, H3.out.1.bx⟩, H5.out.2.1.save s6 (fun _ => by omega), view_empty _ _ _ _ _ _ rfl, HZ.out, hc5, (fun h => by cases h), Nat.le_refl _, fun _ => rfl⟩
    have t6 := HT.out.turn (x := T) (L' := L + 400) (k' := ⟨q, some ⟨g5, 0, none⟩, g5, 400, c5, Z, none, 0, 0, 0, fun _ => 0⟩) wh hw3 hc (fun k hk hT _ => hb62 k hk hT) (fun j hj _ => HT.out.off j hj) H3.out.2.2.2.2 r6
      (fun j hj h1 h2 h3 => by rw [if_neg (by omega), if_neg (by omega), if_neg h1]) ⟨by dsimp only; rw [if_neg (by omega), if_neg (by omega), if_pos rfl], by dsimp only; rw [if_neg (by omega), if_pos (by omega)], by dsimp only; rw [if_pos (by omega)]⟩ hc3 e6 (by show B0 ≤ q; omega) ⟨by show q ≠ T; omega, (fun _ => by show g5 ≠ T; omega), fun h0 => absurd h0 (by show ¬ 0 < 0; omega)⟩
      (fun j hj _ => ⟨HT.out.off_new q (by omega) j hj, (fun h0 => by show g5 ≠ (K j).p; have := HT.out.ltp j hj; omega), fun h0 => absurd h0 (by show ¬ 0 < 0; omega)⟩) ⟨(fun h0 => by show g5 ≠ q; omega), fun h0 => absurd h0 (by show ¬ 0 < 0; omega)⟩ ⟨by show 400 ≤ 400; omega, Nat.zero_le _⟩ (by omega)
    have og6 : T ≠ g ∧ ∀ j, j < max c (wh + 1) → Off g (upk K wh ⟨q, some ⟨g5, 0, none⟩, g5, 400, c5, Z, none, 0, 0, 0, fun _ => 0⟩ j) := ⟨HOg.out.1, fun j hj => by
      by_cases e : j = wh
      · rw [e, upk_at]
        exact ⟨by show q ≠ g; omega, (fun _ => by show g5 ≠ g; omega), fun h0 => absurd h0 (by show ¬ 0 < 0; omega)⟩
      · rw [upk_ne e]
        exact HOg.out.2 j (by omega)⟩
    have bw6 : Below B0 w w6 := HW.out.trans ⟨s6.os.trans (H5.out.1.os.trans (H4.out.1.os.trans H3.out.2.1.os)), s6.tape.trans (H5.out.1.tape.trans (H4.out.1.tape.trans H3.out.2.1.tape)), s6.output.trans (H5.out.1.output.trans (H4.out.1.output.trans H3.out.2.1.output)), by omega, fun k hk => hb62 k (by have := HW.out.size; omega) (by omega)⟩
    have H6 : Hid (Tb B0 w6 T (max c (wh + 1)) (L + 400) (upk K wh ⟨q, some ⟨g5, 0, none⟩, g5, 400, c5, Z, none, 0, 0, 0, fun _ => 0⟩) ∧ InOk w6 g 400 cap Z ∧ View w6 a bb bo 400 (fun i => (Z i : Int)) ∧ Below B0 w w6 ∧ T ≠ g ∧ ∀ j, j < max c (wh + 1) → Off g (upk K wh ⟨q, some ⟨g5, 0, none⟩, g5, 400, c5, Z, none, 0, 0, 0, fun _ => 0⟩ j)) :=
      ⟨t6, HI.out.of (hb62 g gle (by omega)), ((HV4.out.below H5.out.1).save s6 (fun h0 => (Hfar.out (by omega)).1)), bw6, og6⟩
    have c3 : w6.cell? ⟨T, wh, none⟩ = some (.pointer (some ⟨q, 0, none⟩)) := by rw [r6.cell (i := wh) (by omega), if_neg (by omega), if_neg (by omega), if_pos rfl]
    clear s6 r6 z45 z46 fz4 hb6 hb62 e6 t6 og6 bw6 HT HI HV HV4 HW HOg H3 H4 H5 z4 HGr lt2 qge w02 gw
    go_wp2_with fail
    refine (aswas_yes w6 g cap a bb bo 400 cc Z H6.out.2.2.1 (H6.out.2.1.view HZ.out (by omega)) H6.out.2.1.cap).mono ?_
    rintro _ w8 ⟨rfl, q8, hw8⟩
    have b8 : Below w6.heap.size w6 w8 := by rw [hw8]; exact below_drewN (Below.refl _ _) q8
    have HT8 : Hid (Tb B0 w8 T (max c (wh + 1)) (L + 400) (upk K wh ⟨q, some ⟨g5, 0, none⟩, g5, 400, c5, Z, none, 0, 0, 0, fun _ => 0⟩) ∧ InOk w8 g 400 cap Z ∧ Below B0 w w8) := ⟨H6.out.1.below b8, H6.out.2.1.below b8, H6.out.2.2.2.1.trans (b8.mono (by have := H6.out.2.2.2.1.size; omega))⟩
    clear hw8 b8
    go_wp2_with fail
    obtain ⟨fi, hri, hfi⟩ := HT8.out.2.1.row
    refine (over_any w8 g 400 cap cap fi Z hri (fun i hi => by rw [hfi i (by omega)]; unfold cat; rw [if_pos hi]) (fun i _ => HZ.out i) (by have := HT8.out.2.1.cap; omega) (by omega)).mono ?_
    rintro _ w9 ⟨rfl, hs9⟩
    have HF : Hid (Tb B0 w9 T (max c (wh + 1)) (L + 400) (upk K wh ⟨q, some ⟨g5, 0, none⟩, g5, 400, c5, Z, none, 0, 0, 0, fun _ => 0⟩) ∧ Below B0 w w9) := ⟨HT8.out.1.keep g (fun k hk hkg => hs9.block k hk hkg) H6.out.2.2.2.2.1 H6.out.2.2.2.2.2, HT8.out.2.2.trans (hs9.below (by omega) (by have := HT8.out.2.2.size; omega))⟩
    clear hs9 hri hfi HT8
    go_wp2_with fail
    go_ret
    exact ⟨rfl, _, HF.out.1, HF.out.2⟩
end Go.Proofs.YtleabfmlokjllaaDoor
