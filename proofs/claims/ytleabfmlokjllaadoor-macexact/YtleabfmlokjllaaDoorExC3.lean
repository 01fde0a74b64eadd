/-
  MacExact: a step that asks for the code.
-/
import Derived.Test.YtleabfmlokjllaaDoorExC
namespace Go.Proofs.YtleabfmlokjllaaDoor
open Go.RowKit

set_option maxRecDepth 100000 in
set_option maxHeartbeats 4000000 in
theorem plays_k3 (B0 : Nat) (w : World) (T c L : Nat) (K : Nat → Ks) (h : Tb B0 w T c L K) (which : Int) (wh : Nat) (hwh : which % 3 = (wh : Int)) (a : Option Addr) (bb bo n cc : Nat) (Z : Nat → Nat) (hv : View w a bb bo (min n 400) (fun i => (Z i : Int))) (hZ : ∀ i, Z i < 256) (hnil : a = none → cc = 0) (hcc : n ≤ cc)
    (hfar : 0 < n → bb ≠ T ∧ ∀ j, j < c → bb ≠ (K j).p) (hG : Gr w) (hL : L ≤ 100000) (hc : c = 3) :
    Calls Tryd.prog 15 #[.pointer (some ⟨T, 0, none⟩), .agg #[.int .i64 3, .int .i64 which, .slice a n cc]] w fun e w' => e = .returned (.bool true) ∧ ∃ K', Tb B0 w' T (max c (wh + 1)) (L + 400) K' ∧ Below B0 w w' := by
  have hw3 : wh < 3 := by omega
  have hwi : (wh : Int) < 3 := by omega
  have r := rest_eq which 3 (by decide)
  rw [hwh] at r
  have rb1 : -3 < which.tmod 3 := Int.lt_tmod_of_pos which (by decide)
  have rb2 : which.tmod 3 < 3 := Int.tmod_lt_of_pos which (by decide)
  have tlt := h.lt
  have lo := h.loT
  clear hwh
  by_cases hn : n ≤ 400
  · have v1 : View w a bb bo n (fun i => (Z i : Int)) := ⟨fun h0 => hv.at_ (by omega), fun i hi => hv.cell i (by omega), fun i hi => hv.bd i (by omega), by omega⟩
    have b1 : Below w.heap.size w (w.alloc (.cells #[.int .i64 3, .int .i64 which, .slice a n cc] 49)) := (Below.refl _ _).alloc (Nat.le_refl _) _
    have k1 : (w.alloc (.cells #[.int .i64 3, .int .i64 which, .slice a n cc] 49)).cell? ⟨w.heap.size, 0, none⟩ = some (.int .i64 3) := by rw [cell_of_row _ _ _ _ 49 _ (heap_alloc_new w _)]; rfl
    have cr := roomy_any (w.alloc (.cells #[.int .i64 3, .int .i64 which, .slice a n cc] 49)) a bb bo n cc Z (v1.below b1) hnil (by omega)
    have HH : Hid (Tb B0 w T c L K ∧ View w a bb bo n (fun i => (Z i : Int)) ∧ Gr w ∧ Below w.heap.size w (w.alloc (.cells #[.int .i64 3, .int .i64 which, .slice a n cc] 49)) ∧ (w.alloc (.cells #[.int .i64 3, .int .i64 which, .slice a n cc] 49)).cell? ⟨w.heap.size, 0, none⟩ = some (.int .i64 3)) := ⟨h, v1, hG, b1, k1⟩
    have Hfar : Hid (0 < n → bb ≠ T ∧ ∀ j, j < c → bb ≠ (K j).p) := hfar
    have HZ : Hid (∀ i, Z i < 256) := hZ
    have Hnil : Hid (a = none → cc = 0) := hnil
    clear h hv hG v1 b1 k1 hfar hZ hnil
    go_enter Tryd.func15, Tryd.ntmps15
    go_wp2_with fail
    refine cr.mono ?_
    rintro _ w2 ⟨g, cap, rfl, own2, hcap2, hg2, hgl2, hb2⟩
    rw [World.size_alloc] at hg2
    have b02 : Below w.heap.size w w2 := ch HH.out.2.2.2.1 hb2
    have ck : w2.cell? ⟨w.heap.size, 0, none⟩ = some (.int .i64 3) := (hb2.cell (p := ⟨w.heap.size, 0, none⟩) (by show w.heap.size < _; simp)).trans HH.out.2.2.2.2
    have HT : Hid (Tb B0 w2 T c L K) := HH.out.1.below b02
    have HI : Hid (InOk w2 g n cap Z) := in_of_own own2 hcap2
    have HV : Hid (View w2 a bb bo n (fun i => (Z i : Int))) := HH.out.2.1.below b02
    have HW : Hid (Below B0 w w2) := b02.mono (by omega)
    have HGr : Hid (Gr w2) := HH.out.2.2.1.below b02
    have HOg : Hid (T ≠ g ∧ ∀ j, j < c → Off g (K j)) := ⟨by omega, HH.out.1.off_new g (by omega)⟩
    have hbb : 0 < n → bb < w.heap.size := fun h0 => HH.out.2.1.lt h0
    clear own2 hb2 b02 cr HH
    obtain ⟨k0, hk0⟩ : ∃ k, k = K wh := ⟨_, rfl⟩
    obtain ⟨f, hr2, hf2⟩ := HT.out.row
    obtain ⟨f1, f2, f3⟩ := hf2 wh (by omega)
    rw [← hk0] at f1 f2 f3
    have e0 : Ent w2 k0 := by rw [hk0]; exact HT.out.ent wh (by omega)
    have ln0 : k0.sn ≤ 400 ∧ k0.bn ≤ L := by rw [hk0]; exact HT.out.len wh (by omega)
    have Hk0 : Hid (k0 = K wh) := hk0
    have H2 : Hid (w2.rowIs T 46 9 f ∧ ∀ j, j < c → Cells f j (K j)) := ⟨hr2, hf2⟩
    have He : Hid (Ent w2 k0) := e0
    have Hf : Hid (f wh = .pointer (some ⟨k0.p, 0, none⟩) ∧ f (3 + 2 * wh) = .slice k0.sa k0.sn k0.sc ∧ f (4 + 2 * wh) = .slice k0.ba k0.bn k0.bc) := ⟨f1, f2, f3⟩
    have ct : w2.cell? ⟨T, wh, none⟩ = some (.pointer (some ⟨k0.p, 0, none⟩)) := by rw [hr2.cell (i := wh) (by omega), f1]
    have cs : w2.cell? ⟨T, 3 + wh * 2, none⟩ = some (.slice k0.sa k0.sn k0.sc) := by rw [hr2.cell (i := 3 + wh * 2) (by omega), show 3 + wh * 2 = 3 + 2 * wh by omega, f2]
    have cb : w2.cell? ⟨T, 3 + wh * 2 + 1, none⟩ = some (.slice k0.ba k0.bn k0.bc) := by rw [hr2.cell (i := 3 + wh * 2 + 1) (by omega), show 3 + wh * 2 + 1 = 4 + 2 * wh by omega, f3]
    clear hk0 hr2 hf2 f1 f2 f3 e0
    go_wp2_with fail
    clear ck
    have lt2 : T < w2.heap.size := HT.out.lt
    have bd2 : Below w2.heap.size w2 w2.drew := (Below.refl _ _).drew
    have cm := mcode_any w2.drew k0.p _ _ _ (He.out.kd.below bd2) (HGr.out.below bd2).g (by omega)
    obtain ⟨D, hD⟩ : ∃ D, D = hmac (blk k0.sn k0.S) k0.bn k0.X := ⟨_, rfl⟩
    rw [← hD] at cm
    have HD : Hid (D = hmac (blk k0.sn k0.S) k0.bn k0.X) := hD
    have hS2 : w2.drew.cell? ⟨T, wh, none⟩ = some (.pointer (some ⟨k0.p, 0, none⟩)) ∧ w2.drew.cell? ⟨T, 3 + wh * 2, none⟩ = some (.slice k0.sa k0.sn k0.sc) ∧ w2.drew.cell? ⟨T, 3 + wh * 2 + 1, none⟩ = some (.slice k0.ba k0.bn k0.bc) := ⟨ct, cs, cb⟩
    have H2c : Hid (w2.cell? ⟨T, wh, none⟩ = some (.pointer (some ⟨k0.p, 0, none⟩)) ∧ w2.cell? ⟨T, 3 + wh * 2, none⟩ = some (.slice k0.sa k0.sn k0.sc) ∧ w2.cell? ⟨T, 3 + wh * 2 + 1, none⟩ = some (.slice k0.ba k0.bn k0.bc)) := ⟨ct, cs, cb⟩
    have eqh := fun w0 => eq_hashA w0 D
    clear ct cs cb hD bd2
    refine wp_region_held_drew (S := fun w' => w'.cell? ⟨T, wh, none⟩ = some (.pointer (some ⟨k0.p, 0, none⟩)) ∧ w'.cell? ⟨T, 3 + wh * 2, none⟩ = some (.slice k0.sa k0.sn k0.sc) ∧ w'.cell? ⟨T, 3 + wh * 2 + 1, none⟩ = some (.slice k0.ba k0.bn k0.bc)) (by kernel_rfl) hS2 ?_
    intro hS
    change wpAnyH _ _ _ _ _ 24 _ _ _
    clear hS2
    refine wpAnyH_take (i := 0) (v := ?_) (by simp only [List.getElem?_toArray, List.getElem?_cons_zero]; rfl) (by kernel_rfl) (by kernel_rfl) (by kernel_rfl) (by exact fun _ _ _ h => h) (Or.inl ⟨by rfl, ?_⟩) hS ?_
    rotate_left
    · intro w' _
      go_simp
      try with_reducible rfl
    refine wpAnyH_take (i := 1) (v := ?_) (by simp only [List.getElem?_toArray, List.getElem?_cons_zero, List.getElem?_cons_succ]; rfl) (by kernel_rfl) (by kernel_rfl) (by kernel_rfl) (by exact fun _ _ _ h => h) (Or.inl ⟨by rfl, ?_⟩) hS ?_
    rotate_left
    · intro w' _
      go_simp
      try with_reducible rfl
    refine wpAnyH_take (i := 2) (v := ?_) (by simp only [List.getElem?_toArray, List.getElem?_cons_zero, List.getElem?_cons_succ]; rfl) (by kernel_rfl) (by kernel_rfl) (by kernel_rfl) (by exact fun _ _ _ h => h) (Or.inl ⟨by rfl, ?_⟩) hS ?_
    rotate_left
    · intro w' _
      go_simp
      try with_reducible rfl
    refine wpAnyH_take (i := 3) (v := ?_) (by simp only [List.getElem?_toArray, List.getElem?_cons_zero, List.getElem?_cons_succ]; rfl) (by kernel_rfl) (by kernel_rfl) (by kernel_rfl) (by exact fun _ _ _ h => h) (Or.inl ⟨by rfl, ?_⟩) hS ?_
    rotate_left
    · intro w' _
      go_simp
      try with_reducible rfl
    refine wpAnyH_take (i := 4) (v := ?_) (by simp only [List.getElem?_toArray, List.getElem?_cons_zero, List.getElem?_cons_succ]; rfl) (by kernel_rfl) (by kernel_rfl) (by kernel_rfl) (by exact fun _ _ _ h => h) (Or.inl ⟨by rfl, ?_⟩) hS ?_
    rotate_left
    · intro w' _
      go_simp
      try with_reducible rfl
    refine wpAnyH_take (i := 5) (v := ?_) (by simp only [List.getElem?_toArray, List.getElem?_cons_zero, List.getElem?_cons_succ]; rfl) (by kernel_rfl) (by kernel_rfl) (by kernel_rfl) (by exact fun _ _ _ h => h) (Or.inl ⟨by rfl, ?_⟩) hS ?_
    rotate_left
    · intro w' _
      go_simp
      try with_reducible rfl
    refine wpAnyH_take (i := 7) (v := ?_) (by simp only [List.getElem?_toArray, List.getElem?_cons_zero, List.getElem?_cons_succ]; rfl) (by kernel_rfl) (by kernel_rfl) (by kernel_rfl) (by exact fun _ _ _ h => h) (Or.inl ⟨by rfl, ?_⟩) hS ?_
    rotate_left
    · intro w' _
      go_simp
      try with_reducible rfl
    refine wpAnyH_take (i := 8) (v := ?_) (by simp only [List.getElem?_toArray, List.getElem?_cons_zero, List.getElem?_cons_succ]; rfl) (by kernel_rfl) (by kernel_rfl) (by kernel_rfl) (by exact fun _ _ _ h => h) (Or.inl ⟨by rfl, ?_⟩) hS ?_
    rotate_left
    · intro w' _
      go_simp
      try with_reducible rfl
    refine wpAnyH_take (i := 9) (v := ?_) (by simp only [List.getElem?_toArray, List.getElem?_cons_zero, List.getElem?_cons_succ]; rfl) (by kernel_rfl) (by kernel_rfl) (by kernel_rfl) (by exact fun _ _ _ h => h) (Or.inl ⟨by rfl, ?_⟩) hS ?_
    rotate_left
    · intro w' _
      go_simp
      try with_reducible rfl
    refine wpAnyH_take (i := 10) (v := ?_) (by simp only [List.getElem?_toArray, List.getElem?_cons_zero, List.getElem?_cons_succ]; rfl) (by kernel_rfl) (by kernel_rfl) (by kernel_rfl) (by exact fun _ _ _ h => h) (Or.inl ⟨by rfl, ?_⟩) hS ?_
    rotate_left
    · intro w' _
      go_simp
      try with_reducible rfl
    refine wpAnyH_take (i := 11) (v := ?_) (by simp only [List.getElem?_toArray, List.getElem?_cons_zero, List.getElem?_cons_succ]; rfl) (by kernel_rfl) (by kernel_rfl) (by kernel_rfl) (by exact fun _ _ _ h => h) (Or.inl ⟨by rfl, ?_⟩) hS ?_
    rotate_left
    · intro w' _
      go_simp
      try with_reducible rfl
    refine wpAnyH_take (i := 12) (v := ?_) (by simp only [List.getElem?_toArray, List.getElem?_cons_zero, List.getElem?_cons_succ]; rfl) (by kernel_rfl) (by kernel_rfl) (by kernel_rfl) (by exact fun _ _ _ h => h) (Or.inl ⟨by rfl, ?_⟩) hS ?_
    rotate_left
    · intro w' _
      go_simp
      try with_reducible rfl
    refine wpAnyH_take (i := 13) (v := ?_) (by simp only [List.getElem?_toArray, List.getElem?_cons_zero, List.getElem?_cons_succ]; rfl) (by kernel_rfl) (by kernel_rfl) (by kernel_rfl) (by exact fun _ _ _ h => h) (Or.inl ⟨by rfl, ?_⟩) hS ?_
    rotate_left
    · intro w' _
      go_simp
      try with_reducible rfl
    refine wpAnyH_take (i := 14) (v := ?_) (by simp only [List.getElem?_toArray, List.getElem?_cons_zero, List.getElem?_cons_succ]; rfl) (by kernel_rfl) (by kernel_rfl) (by kernel_rfl) (by exact fun _ _ _ h => h) (Or.inl ⟨by rfl, ?_⟩) hS ?_
    rotate_left
    · intro w' _
      go_simp
      try with_reducible rfl
    refine wpAnyH_take (i := 15) (v := ?_) (by simp only [List.getElem?_toArray, List.getElem?_cons_zero, List.getElem?_cons_succ]; rfl) (by kernel_rfl) (by kernel_rfl) (by kernel_rfl) (by exact fun _ _ _ h => h) (Or.inl ⟨by rfl, ?_⟩) hS ?_
    rotate_left
    · intro w' _
      go_simp
      try with_reducible rfl
    refine wpAnyH_take (i := 16) (v := ?_) (by simp only [List.getElem?_toArray, List.getElem?_cons_zero, List.getElem?_cons_succ]; rfl) (by kernel_rfl) (by kernel_rfl) (by kernel_rfl) (by exact fun _ _ _ h => h) (Or.inl ⟨by rfl, ?_⟩) hS ?_
    rotate_left
    · intro w' _
      go_simp
      try with_reducible rfl
    refine wpAnyH_take (i := 17) (v := ?_) (by simp only [List.getElem?_toArray, List.getElem?_cons_zero, List.getElem?_cons_succ]; rfl) (by kernel_rfl) (by kernel_rfl) (by kernel_rfl) (by exact fun _ _ _ h => h) (Or.inl ⟨by rfl, ?_⟩) hS ?_
    rotate_left
    · intro w' _
      go_simp
      try with_reducible rfl
    refine wpAnyH_take (i := 18) (v := ?_) (by simp only [List.getElem?_toArray, List.getElem?_cons_zero, List.getElem?_cons_succ]; rfl) (by kernel_rfl) (by kernel_rfl) (by kernel_rfl) (by exact fun _ _ _ h => h) (Or.inl ⟨by rfl, ?_⟩) hS ?_
    rotate_left
    · intro w' _
      go_simp
      try with_reducible rfl
    refine wpAnyH_take (i := 19) (v := ?_) (by simp only [List.getElem?_toArray, List.getElem?_cons_zero, List.getElem?_cons_succ]; rfl) (by kernel_rfl) (by kernel_rfl) (by kernel_rfl) (by exact fun _ _ _ h => h) (Or.inl ⟨by rfl, ?_⟩) hS ?_
    rotate_left
    · intro w' _
      go_simp
      try with_reducible rfl
    refine wpAnyH_take (i := 20) (v := ?_) (by simp only [List.getElem?_toArray, List.getElem?_cons_zero, List.getElem?_cons_succ]; rfl) (by kernel_rfl) (by kernel_rfl) (by kernel_rfl) (by exact fun _ _ _ h => h) (Or.inl ⟨by rfl, ?_⟩) hS ?_
    rotate_left
    · intro w' _
      go_simp
      try with_reducible rfl
    refine wpAnyH_ready (rs := [6]) (by kernel_rfl) (by simp) ?_
    refine AllReadyH.cons (by simp only [List.getElem?_toArray, List.getElem?_cons_zero, List.getElem?_cons_succ]; rfl) (fun K' hK => ?_) AllReadyH.nil
    go_simp
    refine cm.mono ?_
    rintro _ w3 ⟨rfl, hb3⟩
    have b23 : Below w2.heap.size w2 w3 := Below.trans (Below.drew (Below.refl _ _)) hb3
    have H3 : Hid (Below w2.heap.size w2 w3) := b23
    refine hK.out _ _ ⟨(b23.cell (p := ⟨T, wh, none⟩) lt2).trans H2c.out.1, (b23.cell (p := ⟨T, 3 + wh * 2, none⟩) lt2).trans H2c.out.2.1, (b23.cell (p := ⟨T, 3 + wh * 2 + 1, none⟩) lt2).trans H2c.out.2.2⟩ (fun _ => ?_)
    clear hK K' hb3 b23 cm hS
    refine wpAnyH_ready (rs := [21]) (by kernel_rfl) (by simp) ?_
    refine AllReadyH.cons (by simp only [List.getElem?_toArray, List.getElem?_cons_zero, List.getElem?_cons_succ]; rfl) (fun K' hK => ?_) AllReadyH.nil
    go_simp
    refine (rcode_any w3 k0.sa k0.sb 0 k0.sn k0.sc k0.S (He.out.vs.below H3.out) He.out.hS He.out.sl (by omega) k0.ba k0.bb 0 k0.bn k0.bc k0.X (He.out.vb.below H3.out) He.out.kd.bx He.out.bl (by omega) (HGr.out.below H3.out)).mono ?_
    rintro _ w4 ⟨rfl, hb4⟩
    have b24 : Below w2.heap.size w2 w4 := ch H3.out hb4
    have H4 : Hid (Below w2.heap.size w2 w4) := b24
    rw [← HD.out]
    refine hK.out _ _ ⟨(b24.cell (p := ⟨T, wh, none⟩) lt2).trans H2c.out.1, (b24.cell (p := ⟨T, 3 + wh * 2, none⟩) lt2).trans H2c.out.2.1, (b24.cell (p := ⟨T, 3 + wh * 2 + 1, none⟩) lt2).trans H2c.out.2.2⟩ (fun hS => ?_)
    clear hK K' hb4 b24 H3
    refine wpAnyH_take (i := 22) (v := ?_) (by simp only [List.getElem?_toArray, List.getElem?_cons_zero, List.getElem?_cons_succ]; rfl) (by kernel_rfl) (by kernel_rfl) (by kernel_rfl) (by exact fun _ _ _ h => h) (Or.inl ⟨by rfl, ?_⟩) hS ?_
    rotate_left
    · intro w' _
      go_simp
      try with_reducible rfl
    refine wpAnyH_take (i := 23) (v := ?_) (by simp only [List.getElem?_toArray, List.getElem?_cons_zero, List.getElem?_cons_succ]; rfl) (by kernel_rfl) (by kernel_rfl) (by kernel_rfl) (by exact fun _ _ _ h => h) (Or.inl ⟨by rfl, ?_⟩) hS ?_
    rotate_left
    · intro w' _
      go_simp
      try with_reducible rfl
    refine wpAnyH_done (by kernel_rfl) ?_ _
    have w02 := HW.out.size
    have H6 : Hid (Tb B0 w4 T (max c (wh + 1)) (L + 400) K ∧ InOk w4 g n cap Z ∧ View w4 a bb bo n (fun i => (Z i : Int)) ∧ Below B0 w w4 ∧ T ≠ g ∧ ∀ j, j < max c (wh + 1) → Off g (K j)) := by
      have mx : max c (wh + 1) = c := by omega
      rw [mx]
      exact ⟨(HT.out.below H4.out).more (by omega), HI.out.below H4.out, HV.out.below H4.out, HW.out.trans (H4.out.mono (by omega)), HOg.out⟩
    clear HT HI HV HW HOg H4 HGr H2 He Hf Hk0 H2c HD eqh hS lt2
    go_wp2_with fail
    refine (aswas_yes w4 g cap a bb bo n cc Z H6.out.2.2.1 (H6.out.2.1.view HZ.out (by omega)) H6.out.2.1.cap).mono ?_
    rintro _ w8 ⟨rfl, q8, hw8⟩
    have b8 : Below w4.heap.size w4 w8 := by rw [hw8]; exact below_drewN (Below.refl _ _) q8
    have HT8 : Hid (Tb B0 w8 T (max c (wh + 1)) (L + 400) K ∧ InOk w8 g n cap Z ∧ Below B0 w w8) := ⟨H6.out.1.below b8, H6.out.2.1.below b8, H6.out.2.2.2.1.trans (b8.mono (by have := H6.out.2.2.2.1.size; omega))⟩
    clear hw8 b8
    go_wp2_with fail
    obtain ⟨fi, hri, hfi⟩ := HT8.out.2.1.row
    refine (over_any w8 g n cap cap fi Z hri (fun i hi => by rw [hfi i (by omega)]; unfold cat; rw [if_pos hi]) (fun i _ => HZ.out i) (by have := HT8.out.2.1.cap; omega) (by omega)).mono ?_
    rintro _ w9 ⟨rfl, hs9⟩
    have HF : Hid (Tb B0 w9 T (max c (wh + 1)) (L + 400) K ∧ Below B0 w w9) := ⟨HT8.out.1.keep g (fun k hk hkg => hs9.block k hk hkg) H6.out.2.2.2.2.1 H6.out.2.2.2.2.2, HT8.out.2.2.trans (hs9.below (by omega) (by have := HT8.out.2.2.size; omega))⟩
    clear hs9 hri hfi HT8
    go_wp2_with fail
    go_ret
    exact ⟨rfl, _, HF.out.1, HF.out.2⟩
  · have sl := slice_upto a n cc 400 (by omega)
    have v1 : View w a bb bo 400 (fun i => (Z i : Int)) := ⟨fun h0 => hv.at_ (by omega), fun i hi => hv.cell i (by omega), fun i hi => hv.bd i (by omega), by omega⟩
    have b1 : Below w.heap.size w (w.alloc (.cells #[.int .i64 3, .int .i64 which, .slice a n cc] 49)) := (Below.refl _ _).alloc (Nat.le_refl _) _
    have k1 : (w.alloc (.cells #[.int .i64 3, .int .i64 which, .slice a n cc] 49)).cell? ⟨w.heap.size, 0, none⟩ = some (.int .i64 3) := by rw [cell_of_row _ _ _ _ 49 _ (heap_alloc_new w _)]; rfl
    have cr := roomy_any (w.alloc (.cells #[.int .i64 3, .int .i64 which, .slice a n cc] 49)) a bb bo 400 cc Z (v1.below b1) hnil (by omega)
    have HH : Hid (Tb B0 w T c L K ∧ View w a bb bo 400 (fun i => (Z i : Int)) ∧ Gr w ∧ Below w.heap.size w (w.alloc (.cells #[.int .i64 3, .int .i64 which, .slice a n cc] 49)) ∧ (w.alloc (.cells #[.int .i64 3, .int .i64 which, .slice a n cc] 49)).cell? ⟨w.heap.size, 0, none⟩ = some (.int .i64 3)) := ⟨h, v1, hG, b1, k1⟩
    have Hfar : Hid (0 < n → bb ≠ T ∧ ∀ j, j < c → bb ≠ (K j).p) := hfar
    have HZ : Hid (∀ i, Z i < 256) := hZ
    have Hnil : Hid (a = none → cc = 0) := hnil
    clear h hv hG v1 b1 k1 hfar hZ hnil
    go_enter Tryd.func15, Tryd.ntmps15
    go_wp2_with fail
    refine cr.mono ?_
    rintro _ w2 ⟨g, cap, rfl, own2, hcap2, hg2, hgl2, hb2⟩
    rw [World.size_alloc] at hg2
    have b02 : Below w.heap.size w w2 := ch HH.out.2.2.2.1 hb2
    have ck : w2.cell? ⟨w.heap.size, 0, none⟩ = some (.int .i64 3) := (hb2.cell (p := ⟨w.heap.size, 0, none⟩) (by show w.heap.size < _; simp)).trans HH.out.2.2.2.2
    have HT : Hid (Tb B0 w2 T c L K) := HH.out.1.below b02
    have HI : Hid (InOk w2 g 400 cap Z) := in_of_own own2 hcap2
    have HV : Hid (View w2 a bb bo 400 (fun i => (Z i : Int))) := HH.out.2.1.below b02
    have HW : Hid (Below B0 w w2) := b02.mono (by omega)
    have HGr : Hid (Gr w2) := HH.out.2.2.1.below b02
    have HOg : Hid (T ≠ g ∧ ∀ j, j < c → Off g (K j)) := ⟨by omega, HH.out.1.off_new g (by omega)⟩
    have hbb : 0 < 400 → bb < w.heap.size := fun h0 => HH.out.2.1.lt h0
    clear sl
    clear own2 hb2 b02 cr HH
    obtain ⟨k0, hk0⟩ : ∃ k, k = K wh := ⟨_, rfl⟩
    obtain ⟨f, hr2, hf2⟩ := HT.out.row
    obtain ⟨f1, f2, f3⟩ := hf2 wh (by omega)
    rw [← hk0] at f1 f2 f3
    have e0 : Ent w2 k0 := by rw [hk0]; exact HT.out.ent wh (by omega)
    have ln0 : k0.sn ≤ 400 ∧ k0.bn ≤ L := by rw [hk0]; exact HT.out.len wh (by omega)
    have Hk0 : Hid (k0 = K wh) := hk0
    have H2 : Hid (w2.rowIs T 46 9 f ∧ ∀ j, j < c → Cells f j (K j)) := ⟨hr2, hf2⟩
    have He : Hid (Ent w2 k0) := e0
    have Hf : Hid (f wh = .pointer (some ⟨k0.p, 0, none⟩) ∧ f (3 + 2 * wh) = .slice k0.sa k0.sn k0.sc ∧ f (4 + 2 * wh) = .slice k0.ba k0.bn k0.bc) := ⟨f1, f2, f3⟩
    have ct : w2.cell? ⟨T, wh, none⟩ = some (.pointer (some ⟨k0.p, 0, none⟩)) := by rw [hr2.cell (i := wh) (by omega), f1]
    have cs : w2.cell? ⟨T, 3 + wh * 2, none⟩ = some (.slice k0.sa k0.sn k0.sc) := by rw [hr2.cell (i := 3 + wh * 2) (by omega), show 3 + wh * 2 = 3 + 2 * wh by omega, f2]
    have cb : w2.cell? ⟨T, 3 + wh * 2 + 1, none⟩ = some (.slice k0.ba k0.bn k0.bc) := by rw [hr2.cell (i := 3 + wh * 2 + 1) (by omega), show 3 + wh * 2 + 1 = 4 + 2 * wh by omega, f3]
    clear hk0 hr2 hf2 f1 f2 f3 e0
    go_wp2_with fail
    clear ck
    have lt2 : T < w2.heap.size := HT.out.lt
    have bd2 : Below w2.heap.size w2 w2.drew := (Below.refl _ _).drew
    have cm := mcode_any w2.drew k0.p _ _ _ (He.out.kd.below bd2) (HGr.out.below bd2).g (by omega)
    obtain ⟨D, hD⟩ : ∃ D, D = hmac (blk k0.sn k0.S) k0.bn k0.X := ⟨_, rfl⟩
    rw [← hD] at cm
    have HD : Hid (D = hmac (blk k0.sn k0.S) k0.bn k0.X) := hD
    have hS2 : w2.drew.cell? ⟨T, wh, none⟩ = some (.pointer (some ⟨k0.p, 0, none⟩)) ∧ w2.drew.cell? ⟨T, 3 + wh * 2, none⟩ = some (.slice k0.sa k0.sn k0.sc) ∧ w2.drew.cell? ⟨T, 3 + wh * 2 + 1, none⟩ = some (.slice k0.ba k0.bn k0.bc) := ⟨ct, cs, cb⟩
    have H2c : Hid (w2.cell? ⟨T, wh, none⟩ = some (.pointer (some ⟨k0.p, 0, none⟩)) ∧ w2.cell? ⟨T, 3 + wh * 2, none⟩ = some (.slice k0.sa k0.sn k0.sc) ∧ w2.cell? ⟨T, 3 + wh * 2 + 1, none⟩ = some (.slice k0.ba k0.bn k0.bc)) := ⟨ct, cs, cb⟩
    have eqh := fun w0 => eq_hashA w0 D
    clear ct cs cb hD bd2
    refine wp_region_held_drew (S := fun w' => w'.cell? ⟨T, wh, none⟩ = some (.pointer (some ⟨k0.p, 0, none⟩)) ∧ w'.cell? ⟨T, 3 + wh * 2, none⟩ = some (.slice k0.sa k0.sn k0.sc) ∧ w'.cell? ⟨T, 3 + wh * 2 + 1, none⟩ = some (.slice k0.ba k0.bn k0.bc)) (by kernel_rfl) hS2 ?_
    intro hS
    change wpAnyH _ _ _ _ _ 24 _ _ _
    clear hS2
    refine wpAnyH_take (i := 0) (v := ?_) (by simp only [List.getElem?_toArray, List.getElem?_cons_zero]; rfl) (by kernel_rfl) (by kernel_rfl) (by kernel_rfl) (by exact fun _ _ _ h => h) (Or.inl ⟨by rfl, ?_⟩) hS ?_
    rotate_left
    · intro w' _
      go_simp
      try with_reducible rfl
    refine wpAnyH_take (i := 1) (v := ?_) (by simp only [List.getElem?_toArray, List.getElem?_cons_zero, List.getElem?_cons_succ]; rfl) (by kernel_rfl) (by kernel_rfl) (by kernel_rfl) (by exact fun _ _ _ h => h) (Or.inl ⟨by rfl, ?_⟩) hS ?_
    rotate_left
    · intro w' _
      go_simp
      try with_reducible rfl
    refine wpAnyH_take (i := 2) (v := ?_) (by simp only [List.getElem?_toArray, List.getElem?_cons_zero, List.getElem?_cons_succ]; rfl) (by kernel_rfl) (by kernel_rfl) (by kernel_rfl) (by exact fun _ _ _ h => h) (Or.inl ⟨by rfl, ?_⟩) hS ?_
    rotate_left
    · intro w' _
      go_simp
      try with_reducible rfl
    refine wpAnyH_take (i := 3) (v := ?_) (by simp only [List.getElem?_toArray, List.getElem?_cons_zero, List.getElem?_cons_succ]; rfl) (by kernel_rfl) (by kernel_rfl) (by kernel_rfl) (by exact fun _ _ _ h => h) (Or.inl ⟨by rfl, ?_⟩) hS ?_
    rotate_left
    · intro w' _
      go_simp
      try with_reducible rfl
    refine wpAnyH_take (i := 4) (v := ?_) (by simp only [List.getElem?_toArray, List.getElem?_cons_zero, List.getElem?_cons_succ]; rfl) (by kernel_rfl) (by kernel_rfl) (by kernel_rfl) (by exact fun _ _ _ h => h) (Or.inl ⟨by rfl, ?_⟩) hS ?_
    rotate_left
    · intro w' _
      go_simp
      try with_reducible rfl
    refine wpAnyH_take (i := 5) (v := ?_) (by simp only [List.getElem?_toArray, List.getElem?_cons_zero, List.getElem?_cons_succ]; rfl) (by kernel_rfl) (by kernel_rfl) (by kernel_rfl) (by exact fun _ _ _ h => h) (Or.inl ⟨by rfl, ?_⟩) hS ?_
    rotate_left
    · intro w' _
      go_simp
      try with_reducible rfl
    refine wpAnyH_take (i := 7) (v := ?_) (by simp only [List.getElem?_toArray, List.getElem?_cons_zero, List.getElem?_cons_succ]; rfl) (by kernel_rfl) (by kernel_rfl) (by kernel_rfl) (by exact fun _ _ _ h => h) (Or.inl ⟨by rfl, ?_⟩) hS ?_
    rotate_left
    · intro w' _
      go_simp
      try with_reducible rfl
    refine wpAnyH_take (i := 8) (v := ?_) (by simp only [List.getElem?_toArray, List.getElem?_cons_zero, List.getElem?_cons_succ]; rfl) (by kernel_rfl) (by kernel_rfl) (by kernel_rfl) (by exact fun _ _ _ h => h) (Or.inl ⟨by rfl, ?_⟩) hS ?_
    rotate_left
    · intro w' _
      go_simp
      try with_reducible rfl
    refine wpAnyH_take (i := 9) (v := ?_) (by simp only [List.getElem?_toArray, List.getElem?_cons_zero, List.getElem?_cons_succ]; rfl) (by kernel_rfl) (by kernel_rfl) (by kernel_rfl) (by exact fun _ _ _ h => h) (Or.inl ⟨by rfl, ?_⟩) hS ?_
    rotate_left
    · intro w' _
      go_simp
      try with_reducible rfl
    refine wpAnyH_take (i := 10) (v := ?_) (by simp only [List.getElem?_toArray, List.getElem?_cons_zero, List.getElem?_cons_succ]; rfl) (by kernel_rfl) (by kernel_rfl) (by kernel_rfl) (by exact fun _ _ _ h => h) (Or.inl ⟨by rfl, ?_⟩) hS ?_
    rotate_left
    · intro w' _
      go_simp
      try with_reducible rfl
    refine wpAnyH_take (i := 11) (v := ?_) (by simp only [List.getElem?_toArray, List.getElem?_cons_zero, List.getElem?_cons_succ]; rfl) (by kernel_rfl) (by kernel_rfl) (by kernel_rfl) (by exact fun _ _ _ h => h) (Or.inl ⟨by rfl, ?_⟩) hS ?_
    rotate_left
    · intro w' _
      go_simp
      try with_reducible rfl
    refine wpAnyH_take (i := 12) (v := ?_) (by simp only [List.getElem?_toArray, List.getElem?_cons_zero, List.getElem?_cons_succ]; rfl) (by kernel_rfl) (by kernel_rfl) (by kernel_rfl) (by exact fun _ _ _ h => h) (Or.inl ⟨by rfl, ?_⟩) hS ?_
    rotate_left
    · intro w' _
      go_simp
      try with_reducible rfl
    refine wpAnyH_take (i := 13) (v := ?_) (by simp only [List.getElem?_toArray, List.getElem?_cons_zero, List.getElem?_cons_succ]; rfl) (by kernel_rfl) (by kernel_rfl) (by kernel_rfl) (by exact fun _ _ _ h => h) (Or.inl ⟨by rfl, ?_⟩) hS ?_
    rotate_left
    · intro w' _
      go_simp
      try with_reducible rfl
    refine wpAnyH_take (i := 14) (v := ?_) (by simp only [List.getElem?_toArray, List.getElem?_cons_zero, List.getElem?_cons_succ]; rfl) (by kernel_rfl) (by kernel_rfl) (by kernel_rfl) (by exact fun _ _ _ h => h) (Or.inl ⟨by rfl, ?_⟩) hS ?_
    rotate_left
    · intro w' _
      go_simp
      try with_reducible rfl
    refine wpAnyH_take (i := 15) (v := ?_) (by simp only [List.getElem?_toArray, List.getElem?_cons_zero, List.getElem?_cons_succ]; rfl) (by kernel_rfl) (by kernel_rfl) (by kernel_rfl) (by exact fun _ _ _ h => h) (Or.inl ⟨by rfl, ?_⟩) hS ?_
    rotate_left
    · intro w' _
      go_simp
      try with_reducible rfl
    refine wpAnyH_take (i := 16) (v := ?_) (by simp only [List.getElem?_toArray, List.getElem?_cons_zero, List.getElem?_cons_succ]; rfl) (by kernel_rfl) (by kernel_rfl) (by kernel_rfl) (by exact fun _ _ _ h => h) (Or.inl ⟨by rfl, ?_⟩) hS ?_
    rotate_left
    · intro w' _
      go_simp
      try with_reducible rfl
    refine wpAnyH_take (i := 17) (v := ?_) (by simp only [List.getElem?_toArray, List.getElem?_cons_zero, List.getElem?_cons_succ]; rfl) (by kernel_rfl) (by kernel_rfl) (by kernel_rfl) (by exact fun _ _ _ h => h) (Or.inl ⟨by rfl, ?_⟩) hS ?_
    rotate_left
    · intro w' _
      go_simp
      try with_reducible rfl
    refine wpAnyH_take (i := 18) (v := ?_) (by simp only [List.getElem?_toArray, List.getElem?_cons_zero, List.getElem?_cons_succ]; rfl) (by kernel_rfl) (by kernel_rfl) (by kernel_rfl) (by exact fun _ _ _ h => h) (Or.inl ⟨by rfl, ?_⟩) hS ?_
    rotate_left
    · intro w' _
      go_simp
      try with_reducible rfl
    refine wpAnyH_take (i := 19) (v := ?_) (by simp only [List.getElem?_toArray, List.getElem?_cons_zero, List.getElem?_cons_succ]; rfl) (by kernel_rfl) (by kernel_rfl) (by kernel_rfl) (by exact fun _ _ _ h => h) (Or.inl ⟨by rfl, ?_⟩) hS ?_
    rotate_left
    · intro w' _
      go_simp
      try with_reducible rfl
    refine wpAnyH_take (i := 20) (v := ?_) (by simp only [List.getElem?_toArray, List.getElem?_cons_zero, List.getElem?_cons_succ]; rfl) (by kernel_rfl) (by kernel_rfl) (by kernel_rfl) (by exact fun _ _ _ h => h) (Or.inl ⟨by rfl, ?_⟩) hS ?_
    rotate_left
    · intro w' _
      go_simp
      try with_reducible rfl
    refine wpAnyH_ready (rs := [6]) (by kernel_rfl) (by simp) ?_
    refine AllReadyH.cons (by simp only [List.getElem?_toArray, List.getElem?_cons_zero, List.getElem?_cons_succ]; rfl) (fun K' hK => ?_) AllReadyH.nil
    go_simp
    refine cm.mono ?_
    rintro _ w3 ⟨rfl, hb3⟩
    have b23 : Below w2.heap.size w2 w3 := Below.trans (Below.drew (Below.refl _ _)) hb3
    have H3 : Hid (Below w2.heap.size w2 w3) := b23
    refine hK.out _ _ ⟨(b23.cell (p := ⟨T, wh, none⟩) lt2).trans H2c.out.1, (b23.cell (p := ⟨T, 3 + wh * 2, none⟩) lt2).trans H2c.out.2.1, (b23.cell (p := ⟨T, 3 + wh * 2 + 1, none⟩) lt2).trans H2c.out.2.2⟩ (fun _ => ?_)
    clear hK K' hb3 b23 cm hS
    refine wpAnyH_ready (rs := [21]) (by kernel_rfl) (by simp) ?_
    refine AllReadyH.cons (by simp only [List.getElem?_toArray, List.getElem?_cons_zero, List.getElem?_cons_succ]; rfl) (fun K' hK => ?_) AllReadyH.nil
    go_simp
    refine (rcode_any w3 k0.sa k0.sb 0 k0.sn k0.sc k0.S (He.out.vs.below H3.out) He.out.hS He.out.sl (by omega) k0.ba k0.bb 0 k0.bn k0.bc k0.X (He.out.vb.below H3.out) He.out.kd.bx He.out.bl (by omega) (HGr.out.below H3.out)).mono ?_
    rintro _ w4 ⟨rfl, hb4⟩
    have b24 : Below w2.heap.size w2 w4 := ch H3.out hb4
    have H4 : Hid (Below w2.heap.size w2 w4) := b24
    rw [← HD.out]
    refine hK.out _ _ ⟨(b24.cell (p := ⟨T, wh, none⟩) lt2).trans H2c.out.1, (b24.cell (p := ⟨T, 3 + wh * 2, none⟩) lt2).trans H2c.out.2.1, (b24.cell (p := ⟨T, 3 + wh * 2 + 1, none⟩) lt2).trans H2c.out.2.2⟩ (fun hS => ?_)
    clear hK K' hb4 b24 H3
    refine wpAnyH_take (i := 22) (v := ?_) (by simp only [List.getElem?_toArray, List.getElem?_cons_zero, List.getElem?_cons_succ]; rfl) (by kernel_rfl) (by kernel_rfl) (by kernel_rfl) (by exact fun _ _ _ h => h) (Or.inl ⟨by rfl, ?_⟩) hS ?_
    rotate_left
    · intro w' _
      go_simp
      try with_reducible rfl
    refine wpAnyH_take (i := 23) (v := ?_) (by simp only [List.getElem?_toArray, List.getElem?_cons_zero, List.getElem?_cons_succ]; rfl) (by kernel_rfl) (by kernel_rfl) (by kernel_rfl) (by exact fun _ _ _ h => h) (Or.inl ⟨by rfl, ?_⟩) hS ?_
    rotate_left
    · intro w' _
      go_simp
      try with_reducible rfl
    refine wpAnyH_done (by kernel_rfl) ?_ _
    have w02 := HW.out.size
    have H6 : Hid (Tb B0 w4 T (max c (wh + 1)) (L + 400) K ∧ InOk w4 g 400 cap Z ∧ View w4 a bb bo 400 (fun i => (Z i : Int)) ∧ Below B0 w w4 ∧ T ≠ g ∧ ∀ j, j < max c (wh + 1) → Off g (K j)) := by
      have mx : max c (wh + 1) = c := by omega
      rw [mx]
      exact ⟨(HT.out.below H4.out).more (by omega), HI.out.below H4.out, HV.out.below H4.out, HW.out.trans (H4.out.mono (by omega)), HOg.out⟩
    clear HT HI HV HW HOg H4 HGr H2 He Hf Hk0 H2c HD eqh hS lt2
    go_wp2_with fail
    refine (aswas_yes w4 g cap a bb bo 400 cc Z H6.out.2.2.1 (H6.out.2.1.view HZ.out (by omega)) H6.out.2.1.cap).mono ?_
    rintro _ w8 ⟨rfl, q8, hw8⟩
    have b8 : Below w4.heap.size w4 w8 := by rw [hw8]; exact below_drewN (Below.refl _ _) q8
    have HT8 : Hid (Tb B0 w8 T (max c (wh + 1)) (L + 400) K ∧ InOk w8 g 400 cap Z ∧ Below B0 w w8) := ⟨H6.out.1.below b8, H6.out.2.1.below b8, H6.out.2.2.2.1.trans (b8.mono (by have := H6.out.2.2.2.1.size; omega))⟩
    clear hw8 b8
    go_wp2_with fail
    obtain ⟨fi, hri, hfi⟩ := HT8.out.2.1.row
    refine (over_any w8 g 400 cap cap fi Z hri (fun i hi => by rw [hfi i (by omega)]; unfold cat; rw [if_pos hi]) (fun i _ => HZ.out i) (by have := HT8.out.2.1.cap; omega) (by omega)).mono ?_
    rintro _ w9 ⟨rfl, hs9⟩
    have HF : Hid (Tb B0 w9 T (max c (wh + 1)) (L + 400) K ∧ Below B0 w w9) := ⟨HT8.out.1.keep g (fun k hk hkg => hs9.block k hk hkg) H6.out.2.2.2.2.1 H6.out.2.2.2.2.2, HT8.out.2.2.trans (hs9.below (by omega) (by have := HT8.out.2.2.size; omega))⟩
    clear hs9 hri hfi HT8
    go_wp2_with fail
    go_ret
    exact ⟨rfl, _, HF.out.1, HF.out.2⟩
end Go.Proofs.YtleabfmlokjllaaDoor
