/-
  MacExact: a step of no kind.
-/
import Derived.Test.YtleabfmlokjllaaDoorExC
namespace Go.Proofs.YtleabfmlokjllaaDoor
open Go.RowKit

set_option maxRecDepth 100000 in
set_option maxHeartbeats 4000000 in
theorem plays_k0 (B0 : Nat) (w : World) (T c L : Nat) (K : Nat → Ks) (h : Tb B0 w T c L K) (kind : Int) (which : Int) (wh : Nat) (hwh : which % 3 = (wh : Int)) (a : Option Addr) (bb bo n cc : Nat) (Z : Nat → Nat) (hv : View w a bb bo (min n 400) (fun i => (Z i : Int))) (hZ : ∀ i, Z i < 256) (hnil : a = none → cc = 0) (hcc : n ≤ cc)
    (hfar : 0 < n → bb ≠ T ∧ ∀ j, j < c → bb ≠ (K j).p) (hG : Gr w) (hc : c = 3) (n1 : kind ≠ 1) (n2 : kind ≠ 2) (n3 : kind ≠ 3) (n4 : kind ≠ 4) (n5 : kind ≠ 5) :
    Calls Tryd.prog 15 #[.pointer (some ⟨T, 0, none⟩), .agg #[.int .i64 kind, .int .i64 which, .slice a n cc]] w fun e w' => e = .returned (.bool true) ∧ ∃ K', Tb B0 w' T (max c (wh + 1)) (L + 400) K' ∧ Below B0 w w' := by
  have hw3 : wh < 3 := by omega
  have hwi : (wh : Int) < 3 := by omega
  have r := rest_eq which 3 (by decide)
  rw [hwh] at r
  have rb1 : -3 < which.tmod 3 := Int.lt_tmod_of_pos which (by decide)
  have rb2 : which.tmod 3 < 3 := Int.tmod_lt_of_pos which (by decide)
  have tlt := h.lt
  have lo := h.loT
  clear hwh
  by_cases hn : n ≤ 400
  · have v1 : View w a bb bo n (fun i => (Z i : Int)) := ⟨fun h0 => hv.at_ (by omega), fun i hi => hv.cell i (by omega), fun i hi => hv.bd i (by omega), by omega⟩
    have b1 : Below w.heap.size w (w.alloc (.cells #[.int .i64 kind, .int .i64 which, .slice a n cc] 49)) := (Below.refl _ _).alloc (Nat.le_refl _) _
    have k1 : (w.alloc (.cells #[.int .i64 kind, .int .i64 which, .slice a n cc] 49)).cell? ⟨w.heap.size, 0, none⟩ = some (.int .i64 kind) := by rw [cell_of_row _ _ _ _ 49 _ (heap_alloc_new w _)]; rfl
    have cr := roomy_any (w.alloc (.cells #[.int .i64 kind, .int .i64 which, .slice a n cc] 49)) a bb bo n cc Z (v1.below b1) hnil (by omega)
    have HH : Hid (Tb B0 w T c L K ∧ View w a bb bo n (fun i => (Z i : Int)) ∧ Gr w ∧ Below w.heap.size w (w.alloc (.cells #[.int .i64 kind, .int .i64 which, .slice a n cc] 49)) ∧ (w.alloc (.cells #[.int .i64 kind, .int .i64 which, .slice a n cc] 49)).cell? ⟨w.heap.size, 0, none⟩ = some (.int .i64 kind)) := ⟨h, v1, hG, b1, k1⟩
    have Hfar : Hid (0 < n → bb ≠ T ∧ ∀ j, j < c → bb ≠ (K j).p) := hfar
    have HZ : Hid (∀ i, Z i < 256) := hZ
    have Hnil : Hid (a = none → cc = 0) := hnil
    clear h hv hG v1 b1 k1 hfar hZ hnil
    go_enter Tryd.func15, Tryd.ntmps15
    go_wp2_with fail
    refine cr.mono ?_
    rintro _ w2 ⟨g, cap, rfl, own2, hcap2, hg2, hgl2, hb2⟩
    rw [World.size_alloc] at hg2
    have b02 : Below w.heap.size w w2 := ch HH.out.2.2.2.1 hb2
    have ck : w2.cell? ⟨w.heap.size, 0, none⟩ = some (.int .i64 kind) := (hb2.cell (p := ⟨w.heap.size, 0, none⟩) (by show w.heap.size < _; simp)).trans HH.out.2.2.2.2
    have HT : Hid (Tb B0 w2 T c L K) := HH.out.1.below b02
    have HI : Hid (InOk w2 g n cap Z) := in_of_own own2 hcap2
    have HV : Hid (View w2 a bb bo n (fun i => (Z i : Int))) := HH.out.2.1.below b02
    have HW : Hid (Below B0 w w2) := b02.mono (by omega)
    have HGr : Hid (Gr w2) := HH.out.2.2.1.below b02
    have HOg : Hid (T ≠ g ∧ ∀ j, j < c → Off g (K j)) := ⟨by omega, HH.out.1.off_new g (by omega)⟩
    have hbb : 0 < n → bb < w.heap.size := fun h0 => HH.out.2.1.lt h0
    clear own2 hb2 b02 cr HH
    go_wp2_with fail
    have H6 : Hid (Tb B0 w2 T (max c (wh + 1)) (L + 400) K ∧ InOk w2 g n cap Z ∧ View w2 a bb bo n (fun i => (Z i : Int)) ∧ Below B0 w w2 ∧ T ≠ g ∧ ∀ j, j < max c (wh + 1) → Off g (K j)) := by
      have mx : max c (wh + 1) = c := by omega
      rw [mx]
      exact ⟨HT.out.more (by omega), HI.out, HV.out, HW.out, HOg.out⟩
    clear HT HI HV HW HOg HGr ck
    refine (aswas_yes w2 g cap a bb bo n cc Z H6.out.2.2.1 (H6.out.2.1.view HZ.out (by omega)) H6.out.2.1.cap).mono ?_
    rintro _ w8 ⟨rfl, q8, hw8⟩
    have b8 : Below w2.heap.size w2 w8 := by rw [hw8]; exact below_drewN (Below.refl _ _) q8
    have HT8 : Hid (Tb B0 w8 T (max c (wh + 1)) (L + 400) K ∧ InOk w8 g n cap Z ∧ Below B0 w w8) := ⟨H6.out.1.below b8, H6.out.2.1.below b8, H6.out.2.2.2.1.trans (b8.mono (by have := H6.out.2.2.2.1.size; omega))⟩
    clear hw8 b8
    go_wp2_with fail
    obtain ⟨fi, hri, hfi⟩ := HT8.out.2.1.row
    refine (over_any w8 g n cap cap fi Z hri (fun i hi => by rw [hfi i (by omega)]; unfold cat; rw [if_pos hi]) (fun i _ => HZ.out i) (by have := HT8.out.2.1.cap; omega) (by omega)).mono ?_
    rintro _ w9 ⟨rfl, hs9⟩
    have HF : Hid (Tb B0 w9 T (max c (wh + 1)) (L + 400) K ∧ Below B0 w w9) := ⟨HT8.out.1.keep g (fun k hk hkg => hs9.block k hk hkg) H6.out.2.2.2.2.1 H6.out.2.2.2.2.2, HT8.out.2.2.trans (hs9.below (by omega) (by have := HT8.out.2.2.size; omega))⟩
    clear hs9 hri hfi HT8
    go_wp2_with fail
    go_ret
    exact ⟨rfl, _, HF.out.1, HF.out.2⟩
  · have sl := slice_upto a n cc 400 (by omega)
    have v1 : View w a bb bo 400 (fun i => (Z i : Int)) := ⟨fun h0 => hv.at_ (by omega), fun i hi => hv.cell i (by omega), fun i hi => hv.bd i (by omega), by omega⟩
    have b1 : Below w.heap.size w (w.alloc (.cells #[.int .i64 kind, .int .i64 which, .slice a n cc] 49)) := (Below.refl _ _).alloc (Nat.le_refl _) _
    have k1 : (w.alloc (.cells #[.int .i64 kind, .int .i64 which, .slice a n cc] 49)).cell? ⟨w.heap.size, 0, none⟩ = some (.int .i64 kind) := by rw [cell_of_row _ _ _ _ 49 _ (heap_alloc_new w _)]; rfl
    have cr := roomy_any (w.alloc (.cells #[.int .i64 kind, .int .i64 which, .slice a n cc] 49)) a bb bo 400 cc Z (v1.below b1) hnil (by omega)
    have HH : Hid (Tb B0 w T c L K ∧ View w a bb bo 400 (fun i => (Z i : Int)) ∧ Gr w ∧ Below w.heap.size w (w.alloc (.cells #[.int .i64 kind, .int .i64 which, .slice a n cc] 49)) ∧ (w.alloc (.cells #[.int .i64 kind, .int .i64 which, .slice a n cc] 49)).cell? ⟨w.heap.size, 0, none⟩ = some (.int .i64 kind)) := ⟨h, v1, hG, b1, k1⟩
    have Hfar : Hid (0 < n → bb ≠ T ∧ ∀ j, j < c → bb ≠ (K j).p) := hfar
    have HZ : Hid (∀ i, Z i < 256) := hZ
    have Hnil : Hid (a = none → cc = 0) := hnil
    clear h hv hG v1 b1 k1 hfar hZ hnil
    go_enter Tryd.func15, Tryd.ntmps15
    go_wp2_with fail
    refine cr.mono ?_
    rintro _ w2 ⟨g, cap, rfl, own2, hcap2, hg2, hgl2, hb2⟩
    rw [World.size_alloc] at hg2
    have b02 : Below w.heap.size w w2 := ch HH.out.2.2.2.1 hb2
    have ck : w2.cell? ⟨w.heap.size, 0, none⟩ = some (.int .i64 kind) := (hb2.cell (p := ⟨w.heap.size, 0, none⟩) (by show w.heap.size < _; simp)).trans HH.out.2.2.2.2
    have HT : Hid (Tb B0 w2 T c L K) := HH.out.1.below b02
    have HI : Hid (InOk w2 g 400 cap Z) := in_of_own own2 hcap2
    have HV : Hid (View w2 a bb bo 400 (fun i => (Z i : Int))) := HH.out.2.1.below b02
    have HW : Hid (Below B0 w w2) := b02.mono (by omega)
    have HGr : Hid (Gr w2) := HH.out.2.2.1.below b02
    have HOg : Hid (T ≠ g ∧ ∀ j, j < c → Off g (K j)) := ⟨by omega, HH.out.1.off_new g (by omega)⟩
    have hbb : 0 < 400 → bb < w.heap.size := fun h0 => HH.out.2.1.lt h0
    clear sl
    clear own2 hb2 b02 cr HH
    go_wp2_with fail
    have H6 : Hid (Tb B0 w2 T (max c (wh + 1)) (L + 400) K ∧ InOk w2 g 400 cap Z ∧ View w2 a bb bo 400 (fun i => (Z i : Int)) ∧ Below B0 w w2 ∧ T ≠ g ∧ ∀ j, j < max c (wh + 1) → Off g (K j)) := by
      have mx : max c (wh + 1) = c := by omega
      rw [mx]
      exact ⟨HT.out.more (by omega), HI.out, HV.out, HW.out, HOg.out⟩
    clear HT HI HV HW HOg HGr ck
    refine (aswas_yes w2 g cap a bb bo 400 cc Z H6.out.2.2.1 (H6.out.2.1.view HZ.out (by omega)) H6.out.2.1.cap).mono ?_
    rintro _ w8 ⟨rfl, q8, hw8⟩
    have b8 : Below w2.heap.size w2 w8 := by rw [hw8]; exact below_drewN (Below.refl _ _) q8
    have HT8 : Hid (Tb B0 w8 T (max c (wh + 1)) (L + 400) K ∧ InOk w8 g 400 cap Z ∧ Below B0 w w8) := ⟨H6.out.1.below b8, H6.out.2.1.below b8, H6.out.2.2.2.1.trans (b8.mono (by have := H6.out.2.2.2.1.size; omega))⟩
    clear hw8 b8
    go_wp2_with fail
    obtain ⟨fi, hri, hfi⟩ := HT8.out.2.1.row
    refine (over_any w8 g 400 cap cap fi Z hri (fun i hi => by rw [hfi i (by omega)]; unfold cat; rw [if_pos hi]) (fun i _ => HZ.out i) (by have := HT8.out.2.1.cap; omega) (by omega)).mono ?_
    rintro _ w9 ⟨rfl, hs9⟩
    have HF : Hid (Tb B0 w9 T (max c (wh + 1)) (L + 400) K ∧ Below B0 w w9) := ⟨HT8.out.1.keep g (fun k hk hkg => hs9.block k hk hkg) H6.out.2.2.2.2.1 H6.out.2.2.2.2.2, HT8.out.2.2.trans (hs9.below (by omega) (by have := HT8.out.2.2.size; omega))⟩
    clear hs9 hri hfi HT8
    go_wp2_with fail
    go_ret
    exact ⟨rfl, _, HF.out.1, HF.out.2⟩
end Go.Proofs.YtleabfmlokjllaaDoor
