/-
  MacExact: a step that copies.
-/
import Derived.Test.YtleabfmlokjllaaDoorExC
namespace Go.Proofs.YtleabfmlokjllaaDoor
open Go.RowKit

set_option maxRecDepth 100000 in
set_option maxHeartbeats 4000000 in
theorem plays_k4 (B0 : Nat) (w : World) (T c L : Nat) (K : Nat → Ks) (h : Tb B0 w T c L K) (which : Int) (wh : Nat) (hwh : which % 3 = (wh : Int)) (a : Option Addr) (bb bo n cc : Nat) (Z : Nat → Nat) (hv : View w a bb bo (min n 400) (fun i => (Z i : Int))) (hZ : ∀ i, Z i < 256) (hnil : a = none → cc = 0) (hcc : n ≤ cc)
    (hfar : 0 < n → bb ≠ T ∧ ∀ j, j < c → bb ≠ (K j).p) (hG : Gr w) (hc : c = 3) :
    Calls Tryd.prog 15 #[.pointer (some ⟨T, 0, none⟩), .agg #[.int .i64 4, .int .i64 which, .slice a n cc]] w fun e w' => e = .returned (.bool true) ∧ ∃ K', Tb B0 w' T (max c (wh + 1)) (L + 400) K' ∧ Below B0 w w' := by
  have hw3 : wh < 3 := by omega
  have hwi : (wh : Int) < 3 := by omega
  have r := rest_eq which 3 (by decide)
  rw [hwh] at r
  have rb1 : -3 < which.tmod 3 := Int.lt_tmod_of_pos which (by decide)
  have rb2 : which.tmod 3 < 3 := Int.tmod_lt_of_pos which (by decide)
  have tlt := h.lt
  have lo := h.loT
  clear hwh
  by_cases hn : n ≤ 400
  · have v1 : View w a bb bo n (fun i => (Z i : Int)) := ⟨fun h0 => hv.at_ (by omega), fun i hi => hv.cell i (by omega), fun i hi => hv.bd i (by omega), by omega⟩
    have b1 : Below w.heap.size w (w.alloc (.cells #[.int .i64 4, .int .i64 which, .slice a n cc] 49)) := (Below.refl _ _).alloc (Nat.le_refl _) _
    have k1 : (w.alloc (.cells #[.int .i64 4, .int .i64 which, .slice a n cc] 49)).cell? ⟨w.heap.size, 0, none⟩ = some (.int .i64 4) := by rw [cell_of_row _ _ _ _ 49 _ (heap_alloc_new w _)]; rfl
    have cr := roomy_any (w.alloc (.cells #[.int .i64 4, .int .i64 which, .slice a n cc] 49)) a bb bo n cc Z (v1.below b1) hnil (by omega)
    have HH : Hid (Tb B0 w T c L K ∧ View w a bb bo n (fun i => (Z i : Int)) ∧ Gr w ∧ Below w.heap.size w (w.alloc (.cells #[.int .i64 4, .int .i64 which, .slice a n cc] 49)) ∧ (w.alloc (.cells #[.int .i64 4, .int .i64 which, .slice a n cc] 49)).cell? ⟨w.heap.size, 0, none⟩ = some (.int .i64 4)) := ⟨h, v1, hG, b1, k1⟩
    have Hfar : Hid (0 < n → bb ≠ T ∧ ∀ j, j < c → bb ≠ (K j).p) := hfar
    have HZ : Hid (∀ i, Z i < 256) := hZ
    have Hnil : Hid (a = none → cc = 0) := hnil
    clear h hv hG v1 b1 k1 hfar hZ hnil
    go_enter Tryd.func15, Tryd.ntmps15
    go_wp2_with fail
    refine cr.mono ?_
    rintro _ w2 ⟨g, cap, rfl, own2, hcap2, hg2, hgl2, hb2⟩
    rw [World.size_alloc] at hg2
    have b02 : Below w.heap.size w w2 := ch HH.out.2.2.2.1 hb2
    have ck : w2.cell? ⟨w.heap.size, 0, none⟩ = some (.int .i64 4) := (hb2.cell (p := ⟨w.heap.size, 0, none⟩) (by show w.heap.size < _; simp)).trans HH.out.2.2.2.2
    have HT : Hid (Tb B0 w2 T c L K) := HH.out.1.below b02
    have HI : Hid (InOk w2 g n cap Z) := in_of_own own2 hcap2
    have HV : Hid (View w2 a bb bo n (fun i => (Z i : Int))) := HH.out.2.1.below b02
    have HW : Hid (Below B0 w w2) := b02.mono (by omega)
    have HGr : Hid (Gr w2) := HH.out.2.2.1.below b02
    have HOg : Hid (T ≠ g ∧ ∀ j, j < c → Off g (K j)) := ⟨by omega, HH.out.1.off_new g (by omega)⟩
    have hbb : 0 < n → bb < w.heap.size := fun h0 => HH.out.2.1.lt h0
    clear own2 hb2 b02 cr HH
    obtain ⟨sj, hsj⟩ : ∃ sj, sj = (wh + 1) % 3 := ⟨_, rfl⟩
    have sj3 : sj < 3 := by omega
    have sji : (sj : Int) < 3 := by omega
    have sjw : sj ≠ wh := by omega
    have wr1 : IntKind.i64.wrap ((wh : Int) + 1) = (wh : Int) + 1 := by rw [IntKind.wrap_i64]; omega
    have wr2 : ((wh : Int) + 1).tmod 3 = (sj : Int) := by rw [Int.tmod_eq_emod_of_nonneg (by omega)]; omega
    have wr3 : IntKind.i64.wrap (sj : Int) = (sj : Int) := by rw [IntKind.wrap_i64]; omega
    obtain ⟨k0, hk0⟩ : ∃ k, k = K sj := ⟨_, rfl⟩
    obtain ⟨f, hr2, hf2⟩ := HT.out.row
    obtain ⟨f1, f2, f3⟩ := hf2 sj (by omega)
    rw [← hk0] at f1 f2 f3
    have e0 : Ent w2 k0 := by rw [hk0]; exact HT.out.ent sj (by omega)
    have ln0 : k0.sn ≤ 400 ∧ k0.bn ≤ L := by rw [hk0]; exact HT.out.len sj (by omega)
    have Hk0 : Hid (k0 = K sj) := hk0
    have H2 : Hid (w2.rowIs T 46 9 f ∧ ∀ j, j < c → Cells f j (K j)) := ⟨hr2, hf2⟩
    have He : Hid (Ent w2 k0) := e0
    have Hf : Hid (f sj = .pointer (some ⟨k0.p, 0, none⟩) ∧ f (3 + 2 * sj) = .slice k0.sa k0.sn k0.sc ∧ f (4 + 2 * sj) = .slice k0.ba k0.bn k0.bc) := ⟨f1, f2, f3⟩
    have ct : w2.cell? ⟨T, sj, none⟩ = some (.pointer (some ⟨k0.p, 0, none⟩)) := by rw [hr2.cell (i := sj) (by omega), f1]
    clear hk0 hr2 hf2 f1 f2 f3 e0 hsj
    go_wp2_with fail
    clear ck
    have lt2 : T < w2.heap.size := HT.out.lt
    have bd2 : Below w2.heap.size w2 w2.drew := (Below.refl _ _).drew
    have cp := mcopy_any w2.drew k0.p _ _ _ (He.out.kd.below bd2)
    have hS2 : w2.drew.cell? ⟨T, sj, none⟩ = some (.pointer (some ⟨k0.p, 0, none⟩)) := ct
    have H2c : Hid (w2.cell? ⟨T, sj, none⟩ = some (.pointer (some ⟨k0.p, 0, none⟩))) := ct
    clear ct bd2
    refine wp_region_held_drew (S := fun w' => w'.cell? ⟨T, sj, none⟩ = some (.pointer (some ⟨k0.p, 0, none⟩))) (by kernel_rfl) hS2 ?_
    intro hS
    change wpAnyH _ _ _ _ _ 15 _ _ _
    clear hS2
    refine wpAnyH_take (i := 0) (v := ?_) (by simp only [List.getElem?_toArray, List.getElem?_cons_zero]; rfl) (by kernel_rfl) (by kernel_rfl) (by kernel_rfl) (by exact fun _ _ _ h => h) (Or.inl ⟨by rfl, ?_⟩) hS ?_
    rotate_left
    · intro w' _
      go_simp
      try with_reducible rfl
    refine wpAnyH_take (i := 1) (v := ?_) (by simp only [List.getElem?_toArray, List.getElem?_cons_zero, List.getElem?_cons_succ]; rfl) (by kernel_rfl) (by kernel_rfl) (by kernel_rfl) (by exact fun _ _ _ h => h) (Or.inl ⟨by rfl, ?_⟩) hS ?_
    rotate_left
    · intro w' _
      go_simp
      try with_reducible rfl
    refine wpAnyH_take (i := 2) (v := ?_) (by simp only [List.getElem?_toArray, List.getElem?_cons_zero, List.getElem?_cons_succ]; rfl) (by kernel_rfl) (by kernel_rfl) (by kernel_rfl) (by exact fun _ _ _ h => h) (Or.inl ⟨by rfl, ?_⟩) hS ?_
    rotate_left
    · intro w' _
      go_simp
      try with_reducible rfl
    refine wpAnyH_take (i := 3) (v := ?_) (by simp only [List.getElem?_toArray, List.getElem?_cons_zero, List.getElem?_cons_succ]; rfl) (by kernel_rfl) (by kernel_rfl) (by kernel_rfl) (by exact fun _ _ _ h => h) (Or.inl ⟨by rfl, ?_⟩) hS ?_
    rotate_left
    · intro w' _
      go_simp
      try with_reducible rfl
    refine wpAnyH_take (i := 4) (v := ?_) (by simp only [List.getElem?_toArray, List.getElem?_cons_zero, List.getElem?_cons_succ]; rfl) (by kernel_rfl) (by kernel_rfl) (by kernel_rfl) (by exact fun _ _ _ h => h) (Or.inl ⟨by rfl, ?_⟩) hS ?_
    rotate_left
    · intro w' _
      go_simp
      try with_reducible rfl
    refine wpAnyH_take (i := 5) (v := ?_) (by simp only [List.getElem?_toArray, List.getElem?_cons_zero, List.getElem?_cons_succ]; rfl) (by kernel_rfl) (by kernel_rfl) (by kernel_rfl) (by exact fun _ _ _ h => h) (Or.inl ⟨by rfl, ?_⟩) hS ?_
    rotate_left
    · intro w' _
      go_simp
      try with_reducible rfl
    refine wpAnyH_take (i := 6) (v := ?_) (by simp only [List.getElem?_toArray, List.getElem?_cons_zero, List.getElem?_cons_succ]; rfl) (by kernel_rfl) (by kernel_rfl) (by kernel_rfl) (by exact fun _ _ _ h => h) (Or.inl ⟨by rfl, ?_⟩) hS ?_
    rotate_left
    · intro w' _
      go_simp
      try with_reducible rfl
    refine wpAnyH_take (i := 7) (v := ?_) (by simp only [List.getElem?_toArray, List.getElem?_cons_zero, List.getElem?_cons_succ]; rfl) (by kernel_rfl) (by kernel_rfl) (by kernel_rfl) (by exact fun _ _ _ h => h) (Or.inl ⟨by rfl, ?_⟩) hS ?_
    rotate_left
    · intro w' _
      go_simp
      try with_reducible rfl
    refine wpAnyH_take (i := 8) (v := ?_) (by simp only [List.getElem?_toArray, List.getElem?_cons_zero, List.getElem?_cons_succ]; rfl) (by kernel_rfl) (by kernel_rfl) (by kernel_rfl) (by exact fun _ _ _ h => h) (Or.inl ⟨by rfl, ?_⟩) hS ?_
    rotate_left
    · intro w' _
      go_simp
      try with_reducible rfl
    refine wpAnyH_take (i := 9) (v := ?_) (by simp only [List.getElem?_toArray, List.getElem?_cons_zero, List.getElem?_cons_succ]; rfl) (by kernel_rfl) (by kernel_rfl) (by kernel_rfl) (by exact fun _ _ _ h => h) (Or.inl ⟨by rfl, ?_⟩) hS ?_
    rotate_left
    · intro w' _
      go_simp
      try with_reducible rfl
    refine wpAnyH_take (i := 11) (v := ?_) (by simp only [List.getElem?_toArray, List.getElem?_cons_zero, List.getElem?_cons_succ]; rfl) (by kernel_rfl) (by kernel_rfl) (by kernel_rfl) (by exact fun _ _ _ h => h) (Or.inl ⟨by rfl, ?_⟩) hS ?_
    rotate_left
    · intro w' _
      go_simp
      try with_reducible rfl
    refine wpAnyH_take (i := 12) (v := ?_) (by simp only [List.getElem?_toArray, List.getElem?_cons_zero, List.getElem?_cons_succ]; rfl) (by kernel_rfl) (by kernel_rfl) (by kernel_rfl) (by exact fun _ _ _ h => h) (Or.inl ⟨by rfl, ?_⟩) hS ?_
    rotate_left
    · intro w' _
      go_simp
      try with_reducible rfl
    refine wpAnyH_ready (rs := [10]) (by kernel_rfl) (by simp) ?_
    refine AllReadyH.cons (by simp only [List.getElem?_toArray, List.getElem?_cons_zero, List.getElem?_cons_succ]; rfl) (fun K' hK => ?_) AllReadyH.nil
    go_simp
    refine cp.mono ?_
    rintro _ w3 ⟨q, rfl, hq, kd3, hb3⟩
    have b23 : Below w2.heap.size w2 w3 := Below.trans (Below.drew (Below.refl _ _)) hb3
    have r3 : w3.rowIs T 46 9 f := H2.out.1.of_block (b23.block _ lt2)
    have c1 := r3.cell (i := wh) (by omega)
    have d1 := r3.frozen wh
    have H3 : Hid (Kd w3 q (blk k0.sn k0.S) k0.bn k0.X ∧ Below w2.heap.size w2 w3 ∧ w2.heap.size ≤ q ∧ w3.rowIs T 46 9 f) := ⟨kd3, b23, hq, r3⟩
    refine hK.out _ _ ((b23.cell (p := ⟨T, sj, none⟩) lt2).trans H2c.out) (fun hS => ?_)
    clear hK K' kd3 hb3 b23 cp r3
    refine wpAnyH_take (i := 13) (v := ?_) (by simp only [List.getElem?_toArray, List.getElem?_cons_zero, List.getElem?_cons_succ]; rfl) (by kernel_rfl) (by kernel_rfl) (by kernel_rfl) (by exact fun _ _ _ h => h) (Or.inl ⟨by rfl, ?_⟩) hS ?_
    rotate_left
    · intro w' _
      go_simp
      try with_reducible rfl
    refine wpAnyH_ready (rs := [14]) (by kernel_rfl) (by simp) ?_
    refine AllReadyH.cons (by simp only [List.getElem?_toArray, List.getElem?_cons_zero, List.getElem?_cons_succ]; rfl) (fun K' hK => ?_) AllReadyH.nil
    go_simp
    have s4 : Save T w3 (w3.setCell ⟨T, wh, none⟩ (.pointer (some ⟨q, 0, none⟩))) := (Save.refl _ _).setCell _ _
    have r4 : (w3.setCell ⟨T, wh, none⟩ (.pointer (some ⟨q, 0, none⟩))).rowIs T 46 9 (fun i => if i = wh then .pointer (some ⟨q, 0, none⟩) else f i) := H3.out.2.2.2.set wh _
    have z4' : (w3.setCell ⟨T, wh, none⟩ (.pointer (some ⟨q, 0, none⟩))).heap.size = w3.heap.size := by simp
    refine hK.out _ _ (by rw [r4.cell (i := sj) (by omega), if_neg sjw, Hf.out.1]) (fun _ => ?_)
    clear hK K' c1 d1
    refine wpAnyH_done (by kernel_rfl) ?_ _
    revert s4 r4 z4'
    generalize w3.setCell ⟨T, wh, none⟩ (.pointer (some ⟨q, 0, none⟩)) = w4
    intro s4 r4 z4'
    have z4 : Hid (w4.heap.size = w3.heap.size) := z4'
    have H4 : Hid (Save T w3 w4 ∧ w4.rowIs T 46 9 (fun i => if i = wh then .pointer (some ⟨q, 0, none⟩) else f i)) := ⟨s4, r4⟩
    have a1 : w4.drew.cell? ⟨T, 3 + sj * 2, none⟩ = some (.slice k0.sa k0.sn k0.sc) := by
      have := r4.drew.cell (i := 3 + sj * 2) (by omega)
      rw [this, if_neg (by omega), show 3 + sj * 2 = 3 + 2 * sj by omega, Hf.out.2.1]
    have a2 : w4.drew.cell? ⟨T, 3 + sj * 2 + 1, none⟩ = some (.slice k0.ba k0.bn k0.bc) := by
      have := r4.drew.cell (i := 3 + sj * 2 + 1) (by omega)
      rw [this, if_neg (by omega), show 3 + sj * 2 + 1 = 4 + 2 * sj by omega, Hf.out.2.2]
    have x1 := r4.cell (i := 3 + wh * 2) (by omega)
    have x2 := r4.cell (i := 3 + wh * 2 + 1) (by omega)
    have y1 := r4.frozen (3 + wh * 2)
    have y2 := r4.frozen (3 + wh * 2 + 1)
    rw [if_neg (by omega)] at x1 x2
    clear s4 r4 z4'
    go_wp2_with fail
    refine wp_region_held_drew (S := fun w' => w'.cell? ⟨T, 3 + sj * 2, none⟩ = some (.slice k0.sa k0.sn k0.sc) ∧ w'.cell? ⟨T, 3 + sj * 2 + 1, none⟩ = some (.slice k0.ba k0.bn k0.bc)) (by kernel_rfl) ⟨a1, a2⟩ ?_
    intro hS
    change wpAnyH _ _ _ _ _ 14 _ _ _
    refine wpAnyH_take (i := 0) (v := ?_) (by simp only [List.getElem?_toArray, List.getElem?_cons_zero]; rfl) (by kernel_rfl) (by kernel_rfl) (by kernel_rfl) (by exact fun _ _ _ h => h) (Or.inl ⟨by rfl, ?_⟩) hS ?_
    rotate_left
    · intro w' _
      go_simp
      try with_reducible rfl
    refine wpAnyH_take (i := 1) (v := ?_) (by simp only [List.getElem?_toArray, List.getElem?_cons_zero, List.getElem?_cons_succ]; rfl) (by kernel_rfl) (by kernel_rfl) (by kernel_rfl) (by exact fun _ _ _ h => h) (Or.inl ⟨by rfl, ?_⟩) hS ?_
    rotate_left
    · intro w' _
      go_simp
      try with_reducible rfl
    refine wpAnyH_take (i := 2) (v := ?_) (by simp only [List.getElem?_toArray, List.getElem?_cons_zero, List.getElem?_cons_succ]; rfl) (by kernel_rfl) (by kernel_rfl) (by kernel_rfl) (by exact fun _ _ _ h => h) (Or.inl ⟨by rfl, ?_⟩) hS ?_
    rotate_left
    · intro w' _
      go_simp
      try with_reducible rfl
    refine wpAnyH_take (i := 3) (v := ?_) (by simp only [List.getElem?_toArray, List.getElem?_cons_zero, List.getElem?_cons_succ]; rfl) (by kernel_rfl) (by kernel_rfl) (by kernel_rfl) (by exact fun _ _ _ h => h) (Or.inl ⟨by rfl, ?_⟩) hS ?_
    rotate_left
    · intro w' _
      go_simp
      try with_reducible rfl
    refine wpAnyH_take (i := 4) (v := ?_) (by simp only [List.getElem?_toArray, List.getElem?_cons_zero, List.getElem?_cons_succ]; rfl) (by kernel_rfl) (by kernel_rfl) (by kernel_rfl) (by exact fun _ _ _ h => h) (Or.inl ⟨by rfl, ?_⟩) hS ?_
    rotate_left
    · intro w' _
      go_simp
      try with_reducible rfl
    refine wpAnyH_take (i := 5) (v := ?_) (by simp only [List.getElem?_toArray, List.getElem?_cons_zero, List.getElem?_cons_succ]; rfl) (by kernel_rfl) (by kernel_rfl) (by kernel_rfl) (by exact fun _ _ _ h => h) (Or.inl ⟨by rfl, ?_⟩) hS ?_
    rotate_left
    · intro w' _
      go_simp
      try with_reducible rfl
    refine wpAnyH_take (i := 6) (v := ?_) (by simp only [List.getElem?_toArray, List.getElem?_cons_zero, List.getElem?_cons_succ]; rfl) (by kernel_rfl) (by kernel_rfl) (by kernel_rfl) (by exact fun _ _ _ h => h) (Or.inl ⟨by rfl, ?_⟩) hS ?_
    rotate_left
    · intro w' _
      go_simp
      try with_reducible rfl
    refine wpAnyH_take (i := 7) (v := ?_) (by simp only [List.getElem?_toArray, List.getElem?_cons_zero, List.getElem?_cons_succ]; rfl) (by kernel_rfl) (by kernel_rfl) (by kernel_rfl) (by exact fun _ _ _ h => h) (Or.inl ⟨by rfl, ?_⟩) hS ?_
    rotate_left
    · intro w' _
      go_simp
      try with_reducible rfl
    refine wpAnyH_take (i := 8) (v := ?_) (by simp only [List.getElem?_toArray, List.getElem?_cons_zero, List.getElem?_cons_succ]; rfl) (by kernel_rfl) (by kernel_rfl) (by kernel_rfl) (by exact fun _ _ _ h => h) (Or.inl ⟨by rfl, ?_⟩) hS ?_
    rotate_left
    · intro w' _
      go_simp
      try with_reducible rfl
    refine wpAnyH_take (i := 9) (v := ?_) (by simp only [List.getElem?_toArray, List.getElem?_cons_zero, List.getElem?_cons_succ]; rfl) (by kernel_rfl) (by kernel_rfl) (by kernel_rfl) (by exact fun _ _ _ h => h) (Or.inl ⟨by rfl, ?_⟩) hS ?_
    rotate_left
    · intro w' _
      go_simp
      try with_reducible rfl
    refine wpAnyH_take (i := 10) (v := ?_) (by simp only [List.getElem?_toArray, List.getElem?_cons_zero, List.getElem?_cons_succ]; rfl) (by kernel_rfl) (by kernel_rfl) (by kernel_rfl) (by exact fun _ _ _ h => h) (Or.inl ⟨by rfl, ?_⟩) hS ?_
    rotate_left
    · intro w' _
      go_simp
      try with_reducible rfl
    refine wpAnyH_take (i := 11) (v := ?_) (by simp only [List.getElem?_toArray, List.getElem?_cons_zero, List.getElem?_cons_succ]; rfl) (by kernel_rfl) (by kernel_rfl) (by kernel_rfl) (by exact fun _ _ _ h => h) (Or.inl ⟨by rfl, ?_⟩) hS ?_
    rotate_left
    · intro w' _
      go_simp
      try with_reducible rfl
    refine wpAnyH_take (i := 12) (v := ?_) (by simp only [List.getElem?_toArray, List.getElem?_cons_zero, List.getElem?_cons_succ]; rfl) (by kernel_rfl) (by kernel_rfl) (by kernel_rfl) (by exact fun _ _ _ h => h) (Or.inl ⟨by rfl, ?_⟩) hS ?_
    rotate_left
    · intro w' _
      go_simp
      try with_reducible rfl
    refine wpAnyH_ready (rs := [13]) (by kernel_rfl) (by simp) ?_
    refine AllReadyH.cons (by simp only [List.getElem?_toArray, List.getElem?_cons_zero, List.getElem?_cons_succ]; rfl) (fun K' hK => ?_) AllReadyH.nil
    go_simp
    have s6 : Save T w4 (((w4.setCell ⟨T, 3 + wh * 2, none⟩ (.slice k0.sa k0.sn k0.sc)).setCell ⟨T, 3 + wh * 2 + 1, none⟩ (.slice k0.ba k0.bn k0.bc)).drew) := (((Save.refl _ _).setCell _ _).setCell _ _).drew
    have r6 : (((w4.setCell ⟨T, 3 + wh * 2, none⟩ (.slice k0.sa k0.sn k0.sc)).setCell ⟨T, 3 + wh * 2 + 1, none⟩ (.slice k0.ba k0.bn k0.bc)).drew).rowIs T 46 9 (fun i => if i = 3 + wh * 2 + 1 then .slice k0.ba k0.bn k0.bc else if i = 3 + wh * 2 then .slice k0.sa k0.sn k0.sc else if i = wh then .pointer (some ⟨q, 0, none⟩) else f i) := ((H4.out.2.set _ _).set _ _).drew
    refine hK.out _ _ ⟨by rw [r6.cell (i := 3 + sj * 2) (by omega), if_neg (by omega), if_neg (by omega), if_neg (by omega), show 3 + sj * 2 = 3 + 2 * sj by omega, Hf.out.2.1], by rw [r6.cell (i := 3 + sj * 2 + 1) (by omega), if_neg (by omega), if_neg (by omega), if_neg (by omega), show 3 + sj * 2 + 1 = 4 + 2 * sj by omega, Hf.out.2.2]⟩ (fun _ => ?_)
    clear hK K' x1 x2 y1 y2 hS a1 a2
    refine wpAnyH_done (by kernel_rfl) ?_ _
    revert s6 r6
    generalize ((w4.setCell ⟨T, 3 + wh * 2, none⟩ (.slice k0.sa k0.sn k0.sc)).setCell ⟨T, 3 + wh * 2 + 1, none⟩ (.slice k0.ba k0.bn k0.bc)).drew = w6
    intro s6 r6
    have fz4 := z4.out
    have z23 := H3.out.2.1.size
    have z46 := s6.size
    have qge := H3.out.2.2.1
    have ltq := H3.out.1.lt
    have w02 := HW.out.size
    have gw := HI.out.lt
    have hb63 : ∀ k, k < w3.heap.size → k ≠ T → w6.heap[k]? = w3.heap[k]? := fun k hk hT => (s6.block k (by omega) hT).trans (H4.out.1.block k hk hT)
    have hb62 : ∀ k, k < w2.heap.size → k ≠ T → w6.heap[k]? = w2.heap[k]? := fun k hk hT => (hb63 k (by omega) hT).trans (H3.out.2.1.block k hk)
    have o0 := HT.out.off sj (by omega)
    rw [← Hk0.out] at o0
    have og0 := HOg.out.2 sj (by omega)
    rw [← Hk0.out] at og0
    have e6 : Ent w6 ⟨q, k0.sa, k0.sb, k0.sn, k0.sc, k0.S, k0.ba, k0.bb, k0.bn, k0.bc, k0.X⟩ := ⟨⟨H3.out.1.st.of_block (hb63 q ltq (by omega)), H3.out.1.bd, H3.out.1.bx⟩, He.out.vs.of_blk (fun h0 => hb62 _ (He.out.vs.lt h0) (o0.2.1 h0)), He.out.vb.of_blk (fun h0 => hb62 _ (He.out.vb.lt h0) (o0.2.2 h0)), He.out.hS, He.out.sc, He.out.sl, He.out.bc, He.out.bl⟩
    have t6 := HT.out.turn (x := T) (L' := L + 400) (k' := ⟨q, k0.sa, k0.sb, k0.sn, k0.sc, k0.S, k0.ba, k0.bb, k0.bn, k0.bc, k0.X⟩) wh hw3 (by omega) (fun k hk hT _ => hb62 k hk hT) (fun j hj _ => HT.out.off j hj) H2.out.2 r6
      (fun j hj h1 h2 h3 => by rw [if_neg (by omega), if_neg (by omega), if_neg h1]) ⟨by dsimp only; rw [if_neg (by omega), if_neg (by omega), if_pos rfl], by dsimp only; rw [if_neg (by omega), if_pos (by omega)], by dsimp only; rw [if_pos (by omega)]⟩ (by omega) e6 (by show B0 ≤ q; omega) ⟨by show q ≠ T; omega, o0.2.1, o0.2.2⟩
      (fun j hj _ => ⟨HT.out.off_new q (by omega) j hj, by have := HT.out.far j sj hj (by omega); rw [← Hk0.out] at this; exact this⟩) ⟨(fun h0 => by show k0.sb ≠ q; have := He.out.vs.lt h0; omega), (fun h0 => by show k0.bb ≠ q; have := He.out.vb.lt h0; omega)⟩ ⟨ln0.1, by show k0.bn ≤ L + 400; omega⟩ (by omega)
    have og6 : T ≠ g ∧ ∀ j, j < max c (wh + 1) → Off g (upk K wh ⟨q, k0.sa, k0.sb, k0.sn, k0.sc, k0.S, k0.ba, k0.bb, k0.bn, k0.bc, k0.X⟩ j) := ⟨HOg.out.1, fun j hj => by
      by_cases e : j = wh
      · rw [e, upk_at]
        exact ⟨by show q ≠ g; omega, og0.2.1, og0.2.2⟩
      · rw [upk_ne e]
        exact HOg.out.2 j (by omega)⟩
    have bw6 : Below B0 w w6 := HW.out.trans ⟨s6.os.trans (H4.out.1.os.trans H3.out.2.1.os), s6.tape.trans (H4.out.1.tape.trans H3.out.2.1.tape), s6.output.trans (H4.out.1.output.trans H3.out.2.1.output), by omega, fun k hk => hb62 k (by omega) (by omega)⟩
    have H6 : Hid (Tb B0 w6 T (max c (wh + 1)) (L + 400) (upk K wh ⟨q, k0.sa, k0.sb, k0.sn, k0.sc, k0.S, k0.ba, k0.bb, k0.bn, k0.bc, k0.X⟩) ∧ InOk w6 g n cap Z ∧ View w6 a bb bo n (fun i => (Z i : Int)) ∧ Below B0 w w6 ∧ T ≠ g ∧ ∀ j, j < max c (wh + 1) → Off g (upk K wh ⟨q, k0.sa, k0.sb, k0.sn, k0.sc, k0.S, k0.ba, k0.bb, k0.bn, k0.bc, k0.X⟩ j)) :=
      ⟨t6, HI.out.of (hb62 g gw (by omega)), HV.out.of_blk (fun h0 => hb62 bb (HV.out.lt h0) (Hfar.out (by omega)).1), bw6, og6⟩
    have c3 : w6.cell? ⟨T, wh, none⟩ = some (.pointer (some ⟨q, 0, none⟩)) := by rw [r6.cell (i := wh) (by omega), if_neg (by omega), if_neg (by omega), if_pos rfl]
    clear s6 r6 fz4 z23 z46 qge ltq hb63 hb62 o0 og0 e6 t6 og6 bw6 HT HI HV HW HOg H3 H4 z4 HGr w02 gw H2 He Hf Hk0 H2c lt2 wr1 wr2 wr3
    go_wp2_with fail
    refine (aswas_yes w6 g cap a bb bo n cc Z H6.out.2.2.1 (H6.out.2.1.view HZ.out (by omega)) H6.out.2.1.cap).mono ?_
    rintro _ w8 ⟨rfl, q8, hw8⟩
    have b8 : Below w6.heap.size w6 w8 := by rw [hw8]; exact below_drewN (Below.refl _ _) q8
    have HT8 : Hid (Tb B0 w8 T (max c (wh + 1)) (L + 400) (upk K wh ⟨q, k0.sa, k0.sb, k0.sn, k0.sc, k0.S, k0.ba, k0.bb, k0.bn, k0.bc, k0.X⟩) ∧ InOk w8 g n cap Z ∧ Below B0 w w8) := ⟨H6.out.1.below b8, H6.out.2.1.below b8, H6.out.2.2.2.1.trans (b8.mono (by have := H6.out.2.2.2.1.size; omega))⟩
    clear hw8 b8
    go_wp2_with fail
    obtain ⟨fi, hri, hfi⟩ := HT8.out.2.1.row
    refine (over_any w8 g n cap cap fi Z hri (fun i hi => by rw [hfi i (by omega)]; unfold cat; rw [if_pos hi]) (fun i _ => HZ.out i) (by have := HT8.out.2.1.cap; omega) (by omega)).mono ?_
    rintro _ w9 ⟨rfl, hs9⟩
    have HF : Hid (Tb B0 w9 T (max c (wh + 1)) (L + 400) (upk K wh ⟨q, k0.sa, k0.sb, k0.sn, k0.sc, k0.S, k0.ba, k0.bb, k0.bn, k0.bc, k0.X⟩) ∧ Below B0 w w9) := ⟨HT8.out.1.keep g (fun k hk hkg => hs9.block k hk hkg) H6.out.2.2.2.2.1 H6.out.2.2.2.2.2, HT8.out.2.2.trans (hs9.below (by omega) (by have := HT8.out.2.2.size; omega))⟩
    clear hs9 hri hfi HT8
    go_wp2_with fail
    go_ret
    exact ⟨rfl, _, HF.out.1, HF.out.2⟩
  · have sl := slice_upto a n cc 400 (by omega)
    have v1 : View w a bb bo 400 (fun i => (Z i : Int)) := ⟨fun h0 => hv.at_ (by omega), fun i hi => hv.cell i (by omega), fun i hi => hv.bd i (by omega), by omega⟩
    have b1 : Below w.heap.size w (w.alloc (.cells #[.int .i64 4, .int .i64 which, .slice a n cc] 49)) := (Below.refl _ _).alloc (Nat.le_refl _) _
    have k1 : (w.alloc (.cells #[.int .i64 4, .int .i64 which, .slice a n cc] 49)).cell? ⟨w.heap.size, 0, none⟩ = some (.int .i64 4) := by rw [cell_of_row _ _ _ _ 49 _ (heap_alloc_new w _)]; rfl
    have cr := roomy_any (w.alloc (.cells #[.int .i64 4, .int .i64 which, .slice a n cc] 49)) a bb bo 400 cc Z (v1.below b1) hnil (by omega)
    have HH : Hid (Tb B0 w T c L K ∧ View w a bb bo 400 (fun i => (Z i : Int)) ∧ Gr w ∧ Below w.heap.size w (w.alloc (.cells #[.int .i64 4, .int .i64 which, .slice a n cc] 49)) ∧ (w.alloc (.cells #[.int .i64 4, .int .i64 which, .slice a n cc] 49)).cell? ⟨w.heap.size, 0, none⟩ = some (.int .i64 4)) := ⟨h, v1, hG, b1, k1⟩
    have Hfar : Hid (0 < n → bb ≠ T ∧ ∀ j, j < c → bb ≠ (K j).p) := hfar
    have HZ : Hid (∀ i, Z i < 256) := hZ
    have Hnil : Hid (a = none → cc = 0) := hnil
    clear h hv hG v1 b1 k1 hfar hZ hnil
    go_enter Tryd.func15, Tryd.ntmps15
    go_wp2_with fail
    refine cr.mono ?_
    rintro _ w2 ⟨g, cap, rfl, own2, hcap2, hg2, hgl2, hb2⟩
    rw [World.size_alloc] at hg2
    have b02 : Below w.heap.size w w2 := ch HH.out.2.2.2.1 hb2
    have ck : w2.cell? ⟨w.heap.size, 0, none⟩ = some (.int .i64 4) := (hb2.cell (p := ⟨w.heap.size, 0, none⟩) (by show w.heap.size < _; simp)).trans HH.out.2.2.2.2
    have HT : Hid (Tb B0 w2 T c L K) := HH.out.1.below b02
    have HI : Hid (InOk w2 g 400 cap Z) := in_of_own own2 hcap2
    have HV : Hid (View w2 a bb bo 400 (fun i => (Z i : Int))) := HH.out.2.1.below b02
    have HW : Hid (Below B0 w w2) := b02.mono (by omega)
    have HGr : Hid (Gr w2) := HH.out.2.2.1.below b02
    have HOg : Hid (T ≠ g ∧ ∀ j, j < c → Off g (K j)) := ⟨by omega, HH.out.1.off_new g (by omega)⟩
    have hbb : 0 < 400 → bb < w.heap.size := fun h0 => HH.out.2.1.lt h0
    clear sl
    clear own2 hb2 b02 cr HH
    obtain ⟨sj, hsj⟩ : ∃ sj, sj = (wh + 1) % 3 := ⟨_, rfl⟩
    have sj3 : sj < 3 := by omega
    have sji : (sj : Int) < 3 := by omega
    have sjw : sj ≠ wh := by omega
    have wr1 : IntKind.i64.wrap ((wh : Int) + 1) = (wh : Int) + 1 := by rw [IntKind.wrap_i64]; omega
    have wr2 : ((wh : Int) + 1).tmod 3 = (sj : Int) := by rw [Int.tmod_eq_emod_of_nonneg (by omega)]; omega
    have wr3 : IntKind.i64.wrap (sj : Int) = (sj : Int) := by rw [IntKind.wrap_i64]; omega
    obtain ⟨k0, hk0⟩ : ∃ k, k = K sj := ⟨_, rfl⟩
    obtain ⟨f, hr2, hf2⟩ := HT.out.row
    obtain ⟨f1, f2, f3⟩ := hf2 sj (by omega)
    rw [← hk0] at f1 f2 f3
    have e0 : Ent w2 k0 := by rw [hk0]; exact HT.out.ent sj (by omega)
    have ln0 : k0.sn ≤ 400 ∧ k0.bn ≤ L := by rw [hk0]; exact HT.out.len sj (by omega)
    have Hk0 : Hid (k0 = K sj) := hk0
    have H2 : Hid (w2.rowIs T 46 9 f ∧ ∀ j, j < c → Cells f j (K j)) := ⟨hr2, hf2⟩
    have He : Hid (Ent w2 k0) := e0
    have Hf : Hid (f sj = .pointer (some ⟨k0.p, 0, none⟩) ∧ f (3 + 2 * sj) = .slice k0.sa k0.sn k0.sc ∧ f (4 + 2 * sj) = .slice k0.ba k0.bn k0.bc) := ⟨f1, f2, f3⟩
    have ct : w2.cell? ⟨T, sj, none⟩ = some (.pointer (some ⟨k0.p, 0, none⟩)) := by rw [hr2.cell (i := sj) (by omega), f1]
    clear hk0 hr2 hf2 f1 f2 f3 e0 hsj
    go_wp2_with fail
    clear ck
    have lt2 : T < w2.heap.size := HT.out.lt
    have bd2 : Below w2.heap.size w2 w2.drew := (Below.refl _ _).drew
    have cp := mcopy_any w2.drew k0.p _ _ _ (He.out.kd.below bd2)
    have hS2 : w2.drew.cell? ⟨T, sj, none⟩ = some (.pointer (some ⟨k0.p, 0, none⟩)) := ct
    have H2c : Hid (w2.cell? ⟨T, sj, none⟩ = some (.pointer (some ⟨k0.p, 0, none⟩))) := ct
    clear ct bd2
    refine wp_region_held_drew (S := fun w' => w'.cell? ⟨T, sj, none⟩ = some (.pointer (some ⟨k0.p, 0, none⟩))) (by kernel_rfl) hS2 ?_
    intro hS
    change wpAnyH _ _ _ _ _ 15 _ _ _
    clear hS2
    refine wpAnyH_take (i := 0) (v := ?_) (by simp only [List.getElem?_toArray, List.getElem?_cons_zero]; rfl) (by kernel_rfl) (by kernel_rfl) (by kernel_rfl) (by exact fun _ _ _ h => h) (Or.inl ⟨by rfl, ?_⟩) hS ?_
    rotate_left
    · intro w' _
      go_simp
      try with_reducible rfl
    refine wpAnyH_take (i := 1) (v := ?_) (by simp only [List.getElem?_toArray, List.getElem?_cons_zero, List.getElem?_cons_succ]; rfl) (by kernel_rfl) (by kernel_rfl) (by kernel_rfl) (by exact fun _ _ _ h => h) (Or.inl ⟨by rfl, ?_⟩) hS ?_
    rotate_left
    · intro w' _
      go_simp
      try with_reducible rfl
    refine wpAnyH_take (i := 2) (v := ?_) (by simp only [List.getElem?_toArray, List.getElem?_cons_zero, List.getElem?_cons_succ]; rfl) (by kernel_rfl) (by kernel_rfl) (by kernel_rfl) (by exact fun _ _ _ h => h) (Or.inl ⟨by rfl, ?_⟩) hS ?_
    rotate_left
    · intro w' _
      go_simp
      try with_reducible rfl
    refine wpAnyH_take (i := 3) (v := ?_) (by simp only [List.getElem?_toArray, List.getElem?_cons_zero, List.getElem?_cons_succ]; rfl) (by kernel_rfl) (by kernel_rfl) (by kernel_rfl) (by exact fun _ _ _ h => h) (Or.inl ⟨by rfl, ?_⟩) hS ?_
    rotate_left
    · intro w' _
      go_simp
      try with_reducible rfl
    refine wpAnyH_take (i := 4) (v := ?_) (by simp only [List.getElem?_toArray, List.getElem?_cons_zero, List.getElem?_cons_succ]; rfl) (by kernel_rfl) (by kernel_rfl) (by kernel_rfl) (by exact fun _ _ _ h => h) (Or.inl ⟨by rfl, ?_⟩) hS ?_
    rotate_left
    · intro w' _
      go_simp
      try with_reducible rfl
    refine wpAnyH_take (i := 5) (v := ?_) (by simp only [List.getElem?_toArray, List.getElem?_cons_zero, List.getElem?_cons_succ]; rfl) (by kernel_rfl) (by kernel_rfl) (by kernel_rfl) (by exact fun _ _ _ h => h) (Or.inl ⟨by rfl, ?_⟩) hS ?_
    rotate_left
    · intro w' _
      go_simp
      try with_reducible rfl
    refine wpAnyH_take (i := 6) (v := ?_) (by simp only [List.getElem?_toArray, List.getElem?_cons_zero, List.getElem?_cons_succ]; rfl) (by kernel_rfl) (by kernel_rfl) (by kernel_rfl) (by exact fun _ _ _ h => h) (Or.inl ⟨by rfl, ?_⟩) hS ?_
    rotate_left
    · intro w' _
      go_simp
      try with_reducible rfl
    refine wpAnyH_take (i := 7) (v := ?_) (by simp only [List.getElem?_toArray, List.getElem?_cons_zero, List.getElem?_cons_succ]; rfl) (by kernel_rfl) (by kernel_rfl) (by kernel_rfl) (by exact fun _ _ _ h => h) (Or.inl ⟨by rfl, ?_⟩) hS ?_
    rotate_left
    · intro w' _
      go_simp
      try with_reducible rfl
    refine wpAnyH_take (i := 8) (v := ?_) (by simp only [List.getElem?_toArray, List.getElem?_cons_zero, List.getElem?_cons_succ]; rfl) (by kernel_rfl) (by kernel_rfl) (by kernel_rfl) (by exact fun _ _ _ h => h) (Or.inl ⟨by rfl, ?_⟩) hS ?_
    rotate_left
    · intro w' _
      go_simp
      try with_reducible rfl
    refine wpAnyH_take (i := 9) (v := ?_) (by simp only [List.getElem?_toArray, List.getElem?_cons_zero, List.getElem?_cons_succ]; rfl) (by kernel_rfl) (by kernel_rfl) (by kernel_rfl) (by exact fun _ _ _ h => h) (Or.inl ⟨by rfl, ?_⟩) hS ?_
    rotate_left
    · intro w' _
      go_simp
      try with_reducible rfl
    refine wpAnyH_take (i := 11) (v := ?_) (by simp only [List.getElem?_toArray, List.getElem?_cons_zero, List.getElem?_cons_succ]; rfl) (by kernel_rfl) (by kernel_rfl) (by kernel_rfl) (by exact fun _ _ _ h => h) (Or.inl ⟨by rfl, ?_⟩) hS ?_
    rotate_left
    · intro w' _
      go_simp
      try with_reducible rfl
    refine wpAnyH_take (i := 12) (v := ?_) (by simp only [List.getElem?_toArray, List.getElem?_cons_zero, List.getElem?_cons_succ]; rfl) (by kernel_rfl) (by kernel_rfl) (by kernel_rfl) (by exact fun _ _ _ h => h) (Or.inl ⟨by rfl, ?_⟩) hS ?_
    rotate_left
    · intro w' _
      go_simp
      try with_reducible rfl
    refine wpAnyH_ready (rs := [10]) (by kernel_rfl) (by simp) ?_
    refine AllReadyH.cons (by simp only [List.getElem?_toArray, List.getElem?_cons_zero, List.getElem?_cons_succ]; rfl) (fun K' hK => ?_) AllReadyH.nil
    go_simp
    refine cp.mono ?_
    rintro _ w3 ⟨q, rfl, hq, kd3, hb3⟩
    have b23 : Below w2.heap.size w2 w3 := Below.trans (Below.drew (Below.refl _ _)) hb3
    have r3 : w3.rowIs T 46 9 f := H2.out.1.of_block (b23.block _ lt2)
    have c1 := r3.cell (i := wh) (by omega)
    have d1 := r3.frozen wh
    have H3 : Hid (Kd w3 q (blk k0.sn k0.S) k0.bn k0.X ∧ Below w2.heap.size w2 w3 ∧ w2.heap.size ≤ q ∧ w3.rowIs T 46 9 f) := ⟨kd3, b23, hq, r3⟩
    refine hK.out _ _ ((b23.cell (p := ⟨T, sj, none⟩) lt2).trans H2c.out) (fun hS => ?_)
    clear hK K' kd3 hb3 b23 cp r3
    refine wpAnyH_take (i := 13) (v := ?_) (by simp only [List.getElem?_toArray, List.getElem?_cons_zero, List.getElem?_cons_succ]; rfl) (by kernel_rfl) (by kernel_rfl) (by kernel_rfl) (by exact fun _ _ _ h => h) (Or.inl ⟨by rfl, ?_⟩) hS ?_
    rotate_left
    · intro w' _
      go_simp
      try with_reducible rfl
    refine wpAnyH_ready (rs := [14]) (by kernel_rfl) (by simp) ?_
    refine AllReadyH.cons (by simp only [List.getElem?_toArray, List.getElem?_cons_zero, List.getElem?_cons_succ]; rfl) (fun K' hK => ?_) AllReadyH.nil
    go_simp
    have s4 : Save T w3 (w3.setCell ⟨T, wh, none⟩ (.pointer (some ⟨q, 0, none⟩))) := (Save.refl _ _).setCell _ _
    have r4 : (w3.setCell ⟨T, wh, none⟩ (.pointer (some ⟨q, 0, none⟩))).rowIs T 46 9 (fun i => if i = wh then .pointer (some ⟨q, 0, none⟩) else f i) := H3.out.2.2.2.set wh _
    have z4' : (w3.setCell ⟨T, wh, none⟩ (.pointer (some ⟨q, 0, none⟩))).heap.size = w3.heap.size := by simp
    refine hK.out _ _ (by rw [r4.cell (i := sj) (by omega), if_neg sjw, Hf.out.1]) (fun _ => ?_)
    clear hK K' c1 d1
    refine wpAnyH_done (by kernel_rfl) ?_ _
    revert s4 r4 z4'
    generalize w3.setCell ⟨T, wh, none⟩ (.pointer (some ⟨q, 0, none⟩)) = w4
    intro s4 r4 z4'
    have z4 : Hid (w4.heap.size = w3.heap.size) := z4'
    have H4 : Hid (Save T w3 w4 ∧ w4.rowIs T 46 9 (fun i => if i = wh then .pointer (some ⟨q, 0, none⟩) else f i)) := ⟨s4, r4⟩
    have a1 : w4.drew.cell? ⟨T, 3 + sj * 2, none⟩ = some (.slice k0.sa k0.sn k0.sc) := by
      have := r4.drew.cell (i := 3 + sj * 2) (by omega)
      rw [this, if_neg (by omega), show 3 + sj * 2 = 3 + 2 * sj by omega, Hf.out.2.1]
    have a2 : w4.drew.cell? ⟨T, 3 + sj * 2 + 1, none⟩ = some (.slice k0.ba k0.bn k0.bc) := by
      have := r4.drew.cell (i := 3 + sj * 2 + 1) (by omega)
      rw [this, if_neg (by omega), show 3 + sj * 2 + 1 = 4 + 2 * sj by omega, Hf.out.2.2]
    have x1 := r4.cell (i := 3 + wh * 2) (by omega)
    have x2 := r4.cell (i := 3 + wh * 2 + 1) (by omega)
    have y1 := r4.frozen (3 + wh * 2)
    have y2 := r4.frozen (3 + wh * 2 + 1)
    rw [if_neg (by omega)] at x1 x2
    clear s4 r4 z4'
    go_wp2_with fail
    refine wp_region_held_drew (S := fun w' => w'.cell? ⟨T, 3 + sj * 2, none⟩ = some (.slice k0.sa k0.sn k0.sc) ∧ w'.cell? ⟨T, 3 + sj * 2 + 1, none⟩ = some (.slice k0.ba k0.bn k0.bc)) (by kernel_rfl) ⟨a1, a2⟩ ?_
    intro hS
    change wpAnyH _ _ _ _ _ 14 _ _ _
    refine wpAnyH_take (i := 0) (v := ?_) (by simp only [List.getElem?_toArray, List.getElem?_cons_zero]; rfl) (by kernel_rfl) (by kernel_rfl) (by kernel_rfl) (by exact fun _ _ _ h => h) (Or.inl ⟨by rfl, ?_⟩) hS ?_
    rotate_left
    · intro w' _
      go_simp
      try with_reducible rfl
    refine wpAnyH_take (i := 1) (v := ?_) (by simp only [List.getElem?_toArray, List.getElem?_cons_zero, List.getElem?_cons_succ]; rfl) (by kernel_rfl) (by kernel_rfl) (by kernel_rfl) (by exact fun _ _ _ h => h) (Or.inl ⟨by rfl, ?_⟩) hS ?_
    rotate_left
    · intro w' _
      go_simp
      try with_reducible rfl
    refine wpAnyH_take (i := 2) (v := ?_) (by simp only [List.getElem?_toArray, List.getElem?_cons_zero, List.getElem?_cons_succ]; rfl) (by kernel_rfl) (by kernel_rfl) (by kernel_rfl) (by exact fun _ _ _ h => h) (Or.inl ⟨by rfl, ?_⟩) hS ?_
    rotate_left
    · intro w' _
      go_simp
      try with_reducible rfl
    refine wpAnyH_take (i := 3) (v := ?_) (by simp only [List.getElem?_toArray, List.getElem?_cons_zero, List.getElem?_cons_succ]; rfl) (by kernel_rfl) (by kernel_rfl) (by kernel_rfl) (by exact fun _ _ _ h => h) (Or.inl ⟨by rfl, ?_⟩) hS ?_
    rotate_left
    · intro w' _
      go_simp
      try with_reducible rfl
    refine wpAnyH_take (i := 4) (v := ?_) (by simp only [List.getElem?_toArray, List.getElem?_cons_zero, List.getElem?_cons_succ]; rfl) (by kernel_rfl) (by kernel_rfl) (by kernel_rfl) (by exact fun _ _ _ h => h) (Or.inl ⟨by rfl, ?_⟩) hS ?_
    rotate_left
    · intro w' _
      go_simp
      try with_reducible rfl
    refine wpAnyH_take (i := 5) (v := ?_) (by simp only [List.getElem?_toArray, List.getElem?_cons_zero, List.getElem?_cons_succ]; rfl) (by kernel_rfl) (by kernel_rfl) (by kernel_rfl) (by exact fun _ _ _ h => h) (Or.inl ⟨by rfl, ?_⟩) hS ?_
    rotate_left
    · intro w' _
      go_simp
      try with_reducible rfl
    refine wpAnyH_take (i := 6) (v := ?_) (by simp only [List.getElem?_toArray, List.getElem?_cons_zero, List.getElem?_cons_succ]; rfl) (by kernel_rfl) (by kernel_rfl) (by kernel_rfl) (by exact fun _ _ _ h => h) (Or.inl ⟨by rfl, ?_⟩) hS ?_
    rotate_left
    · intro w' _
      go_simp
      try with_reducible rfl
    refine wpAnyH_take (i := 7) (v := ?_) (by simp only [List.getElem?_toArray, List.getElem?_cons_zero, List.getElem?_cons_succ]; rfl) (by kernel_rfl) (by kernel_rfl) (by kernel_rfl) (by exact fun _ _ _ h => h) (Or.inl ⟨by rfl, ?_⟩) hS ?_
    rotate_left
    · intro w' _
      go_simp
      try with_reducible rfl
    refine wpAnyH_take (i := 8) (v := ?_) (by simp only [List.getElem?_toArray, List.getElem?_cons_zero, List.getElem?_cons_succ]; rfl) (by kernel_rfl) (by kernel_rfl) (by kernel_rfl) (by exact fun _ _ _ h => h) (Or.inl ⟨by rfl, ?_⟩) hS ?_
    rotate_left
    · intro w' _
      go_simp
      try with_reducible rfl
    refine wpAnyH_take (i := 9) (v := ?_) (by simp only [List.getElem?_toArray, List.getElem?_cons_zero, List.getElem?_cons_succ]; rfl) (by kernel_rfl) (by kernel_rfl) (by kernel_rfl) (by exact fun _ _ _ h => h) (Or.inl ⟨by rfl, ?_⟩) hS ?_
    rotate_left
    · intro w' _
      go_simp
      try with_reducible rfl
    refine wpAnyH_take (i := 10) (v := ?_) (by simp only [List.getElem?_toArray, List.getElem?_cons_zero, List.getElem?_cons_succ]; rfl) (by kernel_rfl) (by kernel_rfl) (by kernel_rfl) (by exact fun _ _ _ h => h) (Or.inl ⟨by rfl, ?_⟩) hS ?_
    rotate_left
    · intro w' _
      go_simp
      try with_reducible rfl
    refine wpAnyH_take (i := 11) (v := ?_) (by simp only [List.getElem?_toArray, List.getElem?_cons_zero, List.getElem?_cons_succ]; rfl) (by kernel_rfl) (by kernel_rfl) (by kernel_rfl) (by exact fun _ _ _ h => h) (Or.inl ⟨by rfl, ?_⟩) hS ?_
    rotate_left
    · intro w' _
      go_simp
      try with_reducible rfl
    refine wpAnyH_take (i := 12) (v := ?_) (by simp only [List.getElem?_toArray, List.getElem?_cons_zero, List.getElem?_cons_succ]; rfl) (by kernel_rfl) (by kernel_rfl) (by kernel_rfl) (by exact fun _ _ _ h => h) (Or.inl ⟨by rfl, ?_⟩) hS ?_
    rotate_left
    · intro w' _
      go_simp
      try with_reducible rfl
    refine wpAnyH_ready (rs := [13]) (by kernel_rfl) (by simp) ?_
    refine AllReadyH.cons (by simp only [List.getElem?_toArray, List.getElem?_cons_zero, List.getElem?_cons_succ]; rfl) (fun K' hK => ?_) AllReadyH.nil
    go_simp
    have s6 : Save T w4 (((w4.setCell ⟨T, 3 + wh * 2, none⟩ (.slice k0.sa k0.sn k0.sc)).setCell ⟨T, 3 + wh * 2 + 1, none⟩ (.slice k0.ba k0.bn k0.bc)).drew) := (((Save.refl _ _).setCell _ _).setCell _ _).drew
    have r6 : (((w4.setCell ⟨T, 3 + wh * 2, none⟩ (.slice k0.sa k0.sn k0.sc)).setCell ⟨T, 3 + wh * 2 + 1, none⟩ (.slice k0.ba k0.bn k0.bc)).drew).rowIs T 46 9 (fun i => if i = 3 + wh * 2 + 1 then .slice k0.ba k0.bn k0.bc else if i = 3 + wh * 2 then .slice k0.sa k0.sn k0.sc else if i = wh then .pointer (some ⟨q, 0, none⟩) else f i) := ((H4.out.2.set _ _).set _ _).drew
    refine hK.out _ _ ⟨by rw [r6.cell (i := 3 + sj * 2) (by omega), if_neg (by omega), if_neg (by omega), if_neg (by omega), show 3 + sj * 2 = 3 + 2 * sj by omega, Hf.out.2.1], by rw [r6.cell (i := 3 + sj * 2 + 1) (by omega), if_neg (by omega), if_neg (by omega), if_neg (by omega), show 3 + sj * 2 + 1 = 4 + 2 * sj by omega, Hf.out.2.2]⟩ (fun _ => ?_)
    clear hK K' x1 x2 y1 y2 hS a1 a2
    refine wpAnyH_done (by kernel_rfl) ?_ _
    revert s6 r6
    generalize ((w4.setCell ⟨T, 3 + wh * 2, none⟩ (.slice k0.sa k0.sn k0.sc)).setCell ⟨T, 3 + wh * 2 + 1, none⟩ (.slice k0.ba k0.bn k0.bc)).drew = w6
    intro s6 r6
    have fz4 := z4.out
    have z23 := H3.out.2.1.size
    have z46 := s6.size
    have qge := H3.out.2.2.1
    have ltq := H3.out.1.lt
    have w02 := HW.out.size
    have gw := HI.out.lt
    have hb63 : ∀ k, k < w3.heap.size → k ≠ T → w6.heap[k]? = w3.heap[k]? := fun k hk hT => (s6.block k (by omega) hT).trans (H4.out.1.block k hk hT)
    have hb62 : ∀ k, k < w2.heap.size → k ≠ T → w6.heap[k]? = w2.heap[k]? := fun k hk hT => (hb63 k (by omega) hT).trans (H3.out.2.1.block k hk)
    have o0 := HT.out.off sj (by omega)
    rw [← Hk0.out] at o0
    have og0 := HOg.out.2 sj (by omega)
    rw [← Hk0.out] at og0
    have e6 : Ent w6 ⟨q, k0.sa, k0.sb, k0.sn, k0.sc, k0.S, k0.ba, k0.bb, k0.bn, k0.bc, k0.X⟩ := ⟨⟨H3.out.1.st.of_block (hb63 q ltq (by omega)), H3.out.1.bd, H3.out.1.bx⟩, He.out.vs.of_blk (fun h0 => hb62 _ (He.out.vs.lt h0) (o0.2.1 h0)), He.out.vb.of_blk (fun h0 => hb62 _ (He.out.vb.lt h0) (o0.2.2 h0)), He.out.hS, He.out.sc, He.out.sl, He.out.bc, He.out.bl⟩
    have t6 := HT.out.turn (x := T) (L' := L + 400) (k' := ⟨q, k0.sa, k0.sb, k0.sn, k0.sc, k0.S, k0.ba, k0.bb, k0.bn, k0.bc, k0.X⟩) wh hw3 (by omega) (fun k hk hT _ => hb62 k hk hT) (fun j hj _ => HT.out.off j hj) H2.out.2 r6
      (fun j hj h1 h2 h3 => by rw [if_neg (by omega), if_neg (by omega), if_neg h1]) ⟨by dsimp only; rw [if_neg (by omega), if_neg (by omega), if_pos rfl], by dsimp only; rw [if_neg (by omega), if_pos (by omega)], by dsimp only; rw [if_pos (by omega)]⟩ (by omega) e6 (by show B0 ≤ q; omega) ⟨by show q ≠ T; omega, o0.2.1, o0.2.2⟩
      (fun j hj _ => ⟨HT.out.off_new q (by omega) j hj, by have := HT.out.far j sj hj (by omega); rw [← Hk0.out] at this; exact this⟩) ⟨(fun h0 => by show k0.sb ≠ q; have := He.out.vs.lt h0; omega), (fun h0 => by show k0.bb ≠ q; have := He.out.vb.lt h0; omega)⟩ ⟨ln0.1, by show k0.bn ≤ L + 400; omega⟩ (by omega)
    have og6 : T ≠ g ∧ ∀ j, j < max c (wh + 1) → Off g (upk K wh ⟨q, k0.sa, k0.sb, k0.sn, k0.sc, k0.S, k0.ba, k0.bb, k0.bn, k0.bc, k0.X⟩ j) := ⟨HOg.out.1, fun j hj => by
      by_cases e : j = wh
      · rw [e, upk_at]
        exact ⟨by show q ≠ g; omega, og0.2.1, og0.2.2⟩
      · rw [upk_ne e]
        exact HOg.out.2 j (by omega)⟩
    have bw6 : Below B0 w w6 := HW.out.trans ⟨s6.os.trans (H4.out.1.os.trans H3.out.2.1.os), s6.tape.trans (H4.out.1.tape.trans H3.out.2.1.tape), s6.output.trans (H4.out.1.output.trans H3.out.2.1.output), by omega, fun k hk => hb62 k (by omega) (by omega)⟩
    have H6 : Hid (Tb B0 w6 T (max c (wh + 1)) (L + 400) (upk K wh ⟨q, k0.sa, k0.sb, k0.sn, k0.sc, k0.S, k0.ba, k0.bb, k0.bn, k0.bc, k0.X⟩) ∧ InOk w6 g 400 cap Z ∧ View w6 a bb bo 400 (fun i => (Z i : Int)) ∧ Below B0 w w6 ∧ T ≠ g ∧ ∀ j, j < max c (wh + 1) → Off g (upk K wh ⟨q, k0.sa, k0.sb, k0.sn, k0.sc, k0.S, k0.ba, k0.bb, k0.bn, k0.bc, k0.X⟩ j)) :=
      ⟨t6, HI.out.of (hb62 g gw (by omega)), HV.out.of_blk (fun h0 => hb62 bb (HV.out.lt h0) (Hfar.out (by omega)).1), bw6, og6⟩
    have c3 : w6.cell? ⟨T, wh, none⟩ = some (.pointer (some ⟨q, 0, none⟩)) := by rw [r6.cell (i := wh) (by omega), if_neg (by omega), if_neg (by omega), if_pos rfl]
    clear s6 r6 fz4 z23 z46 qge ltq hb63 hb62 o0 og0 e6 t6 og6 bw6 HT HI HV HW HOg H3 H4 z4 HGr w02 gw H2 He Hf Hk0 H2c lt2 wr1 wr2 wr3
    go_wp2_with fail
    refine (aswas_yes w6 g cap a bb bo 400 cc Z H6.out.2.2.1 (H6.out.2.1.view HZ.out (by omega)) H6.out.2.1.cap).mono ?_
    rintro _ w8 ⟨rfl, q8, hw8⟩
    have b8 : Below w6.heap.size w6 w8 := by rw [hw8]; exact below_drewN (Below.refl _ _) q8
    have HT8 : Hid (Tb B0 w8 T (max c (wh + 1)) (L + 400) (upk K wh ⟨q, k0.sa, k0.sb, k0.sn, k0.sc, k0.S, k0.ba, k0.bb, k0.bn, k0.bc, k0.X⟩) ∧ InOk w8 g 400 cap Z ∧ Below B0 w w8) := ⟨H6.out.1.below b8, H6.out.2.1.below b8, H6.out.2.2.2.1.trans (b8.mono (by have := H6.out.2.2.2.1.size; omega))⟩
    clear hw8 b8
    go_wp2_with fail
    obtain ⟨fi, hri, hfi⟩ := HT8.out.2.1.row
    refine (over_any w8 g 400 cap cap fi Z hri (fun i hi => by rw [hfi i (by omega)]; unfold cat; rw [if_pos hi]) (fun i _ => HZ.out i) (by have := HT8.out.2.1.cap; omega) (by omega)).mono ?_
    rintro _ w9 ⟨rfl, hs9⟩
    have HF : Hid (Tb B0 w9 T (max c (wh + 1)) (L + 400) (upk K wh ⟨q, k0.sa, k0.sb, k0.sn, k0.sc, k0.S, k0.ba, k0.bb, k0.bn, k0.bc, k0.X⟩) ∧ Below B0 w w9) := ⟨HT8.out.1.keep g (fun k hk hkg => hs9.block k hk hkg) H6.out.2.2.2.2.1 H6.out.2.2.2.2.2, HT8.out.2.2.trans (hs9.below (by omega) (by have := HT8.out.2.2.size; omega))⟩
    clear hs9 hri hfi HT8
    go_wp2_with fail
    go_ret
    exact ⟨rfl, _, HF.out.1, HF.out.2⟩
end Go.Proofs.YtleabfmlokjllaaDoor
