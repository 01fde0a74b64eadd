/-
  MacExact: a step that asks for a code at a stroke.
-/
import Derived.Test.YtleabfmlokjllaaDoorExC
namespace Go.Proofs.YtleabfmlokjllaaDoor
open Go.RowKit

set_option maxRecDepth 100000 in
set_option maxHeartbeats 4000000 in
theorem plays_k5 (B0 : Nat) (w : World) (T c L : Nat) (K : Nat → Ks) (h : Tb B0 w T c L K) (which : Int) (wh : Nat) (hwh : which % 3 = (wh : Int)) (a : Option Addr) (bb bo n cc : Nat) (Z : Nat → Nat) (hv : View w a bb bo (min n 400) (fun i => (Z i : Int))) (hZ : ∀ i, Z i < 256) (hnil : a = none → cc = 0) (hcc : n ≤ cc)
    (hfar : 0 < n → bb ≠ T ∧ ∀ j, j < c → bb ≠ (K j).p) (hG : Gr w) (hL : L ≤ 100000) (hc : c = 3) :
    Calls Tryd.prog 15 #[.pointer (some ⟨T, 0, none⟩), .agg #[.int .i64 5, .int .i64 which, .slice a n cc]] w fun e w' => e = .returned (.bool true) ∧ ∃ K', Tb B0 w' T (max c (wh + 1)) (L + 400) K' ∧ Below B0 w w' := by
  have hw3 : wh < 3 := by omega
  have hwi : (wh : Int) < 3 := by omega
  have r := rest_eq which 3 (by decide)
  rw [hwh] at r
  have rb1 : -3 < which.tmod 3 := Int.lt_tmod_of_pos which (by decide)
  have rb2 : which.tmod 3 < 3 := Int.tmod_lt_of_pos which (by decide)
  have tlt := h.lt
  have lo := h.loT
  clear hwh
  by_cases hn : n ≤ 400
  · have v1 : View w a bb bo n (fun i => (Z i : Int)) := ⟨fun h0 => hv.at_ (by omega), fun i hi => hv.cell i (by omega), fun i hi => hv.bd i (by omega), by omega⟩
    have b1 : Below w.heap.size w (w.alloc (.cells #[.int .i64 5, .int .i64 which, .slice a n cc] 49)) := (Below.refl _ _).alloc (Nat.le_refl _) _
    have k1 : (w.alloc (.cells #[.int .i64 5, .int .i64 which, .slice a n cc] 49)).cell? ⟨w.heap.size, 0, none⟩ = some (.int .i64 5) := by rw [cell_of_row _ _ _ _ 49 _ (heap_alloc_new w _)]; rfl
    have cr := roomy_any (w.alloc (.cells #[.int .i64 5, .int .i64 which, .slice a n cc] 49)) a bb bo n cc Z (v1.below b1) hnil (by omega)
    have HH : Hid (Tb B0 w T c L K ∧ View w a bb bo n (fun i => (Z i : Int)) ∧ Gr w ∧ Below w.heap.size w (w.alloc (.cells #[.int .i64 5, .int .i64 which, .slice a n cc] 49)) ∧ (w.alloc (.cells #[.int .i64 5, .int .i64 which, .slice a n cc] 49)).cell? ⟨w.heap.size, 0, none⟩ = some (.int .i64 5)) := ⟨h, v1, hG, b1, k1⟩
    have Hfar : Hid (0 < n → bb ≠ T ∧ ∀ j, j < c → bb ≠ (K j).p) := hfar
    have HZ : Hid (∀ i, Z i < 256) := hZ
    have Hnil : Hid (a = none → cc = 0) := hnil
    clear h hv hG v1 b1 k1 hfar hZ hnil
    go_enter Tryd.func15, Tryd.ntmps15
    go_wp2_with fail
    refine cr.mono ?_
    rintro _ w2 ⟨g, cap, rfl, own2, hcap2, hg2, hgl2, hb2⟩
    rw [World.size_alloc] at hg2
    have b02 : Below w.heap.size w w2 := ch HH.out.2.2.2.1 hb2
    have ck : w2.cell? ⟨w.heap.size, 0, none⟩ = some (.int .i64 5) := (hb2.cell (p := ⟨w.heap.size, 0, none⟩) (by show w.heap.size < _; simp)).trans HH.out.2.2.2.2
    have HT : Hid (Tb B0 w2 T c L K) := HH.out.1.below b02
    have HI : Hid (InOk w2 g n cap Z) := in_of_own own2 hcap2
    have HV : Hid (View w2 a bb bo n (fun i => (Z i : Int))) := HH.out.2.1.below b02
    have HW : Hid (Below B0 w w2) := b02.mono (by omega)
    have HGr : Hid (Gr w2) := HH.out.2.2.1.below b02
    have HOg : Hid (T ≠ g ∧ ∀ j, j < c → Off g (K j)) := ⟨by omega, HH.out.1.off_new g (by omega)⟩
    have hbb : 0 < n → bb < w.heap.size := fun h0 => HH.out.2.1.lt h0
    clear own2 hb2 b02 cr HH
    obtain ⟨k0, hk0⟩ : ∃ k, k = K wh := ⟨_, rfl⟩
    obtain ⟨f, hr2, hf2⟩ := HT.out.row
    obtain ⟨f1, f2, f3⟩ := hf2 wh (by omega)
    rw [← hk0] at f1 f2 f3
    have e0 : Ent w2 k0 := by rw [hk0]; exact HT.out.ent wh (by omega)
    have ln0 : k0.sn ≤ 400 ∧ k0.bn ≤ L := by rw [hk0]; exact HT.out.len wh (by omega)
    have Hk0 : Hid (k0 = K wh) := hk0
    have H2 : Hid (w2.rowIs T 46 9 f ∧ ∀ j, j < c → Cells f j (K j)) := ⟨hr2, hf2⟩
    have He : Hid (Ent w2 k0) := e0
    have Hf : Hid (f wh = .pointer (some ⟨k0.p, 0, none⟩) ∧ f (3 + 2 * wh) = .slice k0.sa k0.sn k0.sc ∧ f (4 + 2 * wh) = .slice k0.ba k0.bn k0.bc) := ⟨f1, f2, f3⟩
    have ct : w2.cell? ⟨T, wh, none⟩ = some (.pointer (some ⟨k0.p, 0, none⟩)) := by rw [hr2.cell (i := wh) (by omega), f1]
    have cs : w2.cell? ⟨T, 3 + wh * 2, none⟩ = some (.slice k0.sa k0.sn k0.sc) := by rw [hr2.cell (i := 3 + wh * 2) (by omega), show 3 + wh * 2 = 3 + 2 * wh by omega, f2]
    have cb : w2.cell? ⟨T, 3 + wh * 2 + 1, none⟩ = some (.slice k0.ba k0.bn k0.bc) := by rw [hr2.cell (i := 3 + wh * 2 + 1) (by omega), show 3 + wh * 2 + 1 = 4 + 2 * wh by omega, f3]
    clear ct cs
    clear hk0 hr2 hf2 f1 f2 f3 e0
    go_wp2_with fail
    clear ck
    refine (roomy_any w2 k0.ba k0.bb 0 k0.bn k0.bc k0.X He.out.vb He.out.bl (by omega)).mono ?_
    rintro _ w3 ⟨gl, capl, rfl, own3, hcap3, hgl3, hlt3, hb3⟩
    have lt2 : T < w2.heap.size := HT.out.lt
    have HL3 : Hid (InOk w3 gl k0.bn capl k0.X ∧ Below w2.heap.size w2 w3) := ⟨in_of_own own3 hcap3, hb3⟩
    obtain ⟨kk, hkk⟩ : ∃ x, x = k0.bn / 3 := ⟨_, rfl⟩
    have q1 : ((k0.bn : Nat) : Int).tdiv 3 = (kk : Int) := by rw [Int.tdiv_eq_ediv_of_nonneg (by omega)]; omega
    have q2 : ((k0.bn : Nat) : Int) / 3 = (kk : Int) := by omega
    have q3 : kk ≤ k0.bn := by omega
    have q4 : (kk : Int) ≤ (k0.bn : Int) := by omega
    have q5 : (kk : Int) ≤ (capl : Int) := by omega
    have q6 : ¬ capl = kk := by omega
    have q7 : kk ≤ capl := by omega
    have Hq : Hid (kk ≤ k0.bn) := q3
    have bd3 : Below w3.heap.size w3 w3.drew := (Below.refl _ _).drew
    have H2c : Hid (w2.cell? ⟨T, 3 + wh * 2 + 1, none⟩ = some (.slice k0.ba k0.bn k0.bc)) := cb
    have cS : w3.drew.cell? ⟨T, 3 + wh * 2 + 1, none⟩ = some (.slice k0.ba k0.bn k0.bc) := ((hb3.trans (bd3.mono hb3.size)).cell (p := ⟨T, 3 + wh * 2 + 1, none⟩) lt2).trans cb
    have vl := (HL3.out.1.head He.out.kd.bx (by omega)).below bd3
    have pc := parts_cut (k := kk) (c := capl) (c2 := capl - kk) (A2 := some ⟨gl, kk, none⟩) vl He.out.kd.bx q3 q7 (fun _ => rfl) (by omega) 22
    have bA : Below w2.heap.size w2 (w3.drew.alloc (.cells #[.slice (some ⟨gl, 0, none⟩) kk capl, .slice none 0 0, .slice (some ⟨gl, kk, none⟩) (k0.bn - kk) (capl - kk)] 22)) := (hb3.trans (bd3.mono hb3.size)).alloc hb3.size _
    have cm := mcodes_any _ (some ⟨g, 0, none⟩) g 0 n cap Z ((HI.out.head HZ.out (by omega)).below bA) (by have := HI.out.cap; omega) HZ.out _ _ _ 3 3 _ _ _ _ _ _ pc (HGr.out.below bA).g (by omega) (by rw [tot_cut kk k0.bn q3]; omega)
    rw [tot_cut kk k0.bn q3, hmac_congr (jn_cut3 kk k0.bn k0.X)] at cm
    obtain ⟨D, hD⟩ : ∃ D, D = hmac (blk n Z) k0.bn k0.X := ⟨_, rfl⟩
    rw [← hD] at cm
    have HD : Hid (D = hmac (blk n Z) k0.bn k0.X) := hD
    have HbA : Hid (Below w2.heap.size w2 (w3.drew.alloc (.cells #[.slice (some ⟨gl, 0, none⟩) kk capl, .slice none 0 0, .slice (some ⟨gl, kk, none⟩) (k0.bn - kk) (capl - kk)] 22)) ∧ Below w3.heap.size w3 (w3.drew.alloc (.cells #[.slice (some ⟨gl, 0, none⟩) kk capl, .slice none 0 0, .slice (some ⟨gl, kk, none⟩) (k0.bn - kk) (capl - kk)] 22))) := ⟨bA, bd3.alloc (Nat.le_refl _) _⟩
    have eqh := fun w0 => eq_hashA w0 D
    clear own3 hb3 hkk hD vl pc bd3 bA cb q3
    go_wp2_with fail
    clear q1 q2
    refine wp_region_held_drew (S := fun w' => w'.cell? ⟨T, 3 + wh * 2 + 1, none⟩ = some (.slice k0.ba k0.bn k0.bc)) (by kernel_rfl) cS ?_
    intro hS
    change wpAnyH _ _ _ _ _ 31 _ _ _
    clear cS
    refine wpAnyH_take (i := 0) (v := ?_) (by simp only [List.getElem?_toArray, List.getElem?_cons_zero]; rfl) (by kernel_rfl) (by kernel_rfl) (by kernel_rfl) (by exact fun _ _ _ h => h) (Or.inl ⟨by rfl, ?_⟩) hS ?_
    rotate_left
    · intro w' _
      go_simp
      try with_reducible rfl
    refine wpAnyH_take (i := 1) (v := ?_) (by simp only [List.getElem?_toArray, List.getElem?_cons_zero, List.getElem?_cons_succ]; rfl) (by kernel_rfl) (by kernel_rfl) (by kernel_rfl) (by exact fun _ _ _ h => h) (Or.inl ⟨by rfl, ?_⟩) hS ?_
    rotate_left
    · intro w' _
      go_simp
      try with_reducible rfl
    refine wpAnyH_take (i := 2) (v := ?_) (by simp only [List.getElem?_toArray, List.getElem?_cons_zero, List.getElem?_cons_succ]; rfl) (by kernel_rfl) (by kernel_rfl) (by kernel_rfl) (by exact fun _ _ _ h => h) (Or.inl ⟨by rfl, ?_⟩) hS ?_
    rotate_left
    · intro w' _
      go_simp
      try with_reducible rfl
    refine wpAnyH_take (i := 3) (v := ?_) (by simp only [List.getElem?_toArray, List.getElem?_cons_zero, List.getElem?_cons_succ]; rfl) (by kernel_rfl) (by kernel_rfl) (by kernel_rfl) (by exact fun _ _ _ h => h) (Or.inl ⟨by rfl, ?_⟩) hS ?_
    rotate_left
    · intro w' _
      go_simp
      try with_reducible rfl
    refine wpAnyH_take (i := 4) (v := ?_) (by simp only [List.getElem?_toArray, List.getElem?_cons_zero, List.getElem?_cons_succ]; rfl) (by kernel_rfl) (by kernel_rfl) (by kernel_rfl) (by exact fun _ _ _ h => h) (Or.inl ⟨by rfl, ?_⟩) hS ?_
    rotate_left
    · intro w' _
      go_simp
      try with_reducible rfl
    refine wpAnyH_take (i := 5) (v := ?_) (by simp only [List.getElem?_toArray, List.getElem?_cons_zero, List.getElem?_cons_succ]; rfl) (by kernel_rfl) (by kernel_rfl) (by kernel_rfl) (by exact fun _ _ _ h => h) (Or.inl ⟨by rfl, ?_⟩) hS ?_
    rotate_left
    · intro w' _
      go_simp
      try with_reducible rfl
    refine wpAnyH_take (i := 6) (v := ?_) (by simp only [List.getElem?_toArray, List.getElem?_cons_zero, List.getElem?_cons_succ]; rfl) (by kernel_rfl) (by kernel_rfl) (by kernel_rfl) (by exact fun _ _ _ h => h) (Or.inl ⟨by rfl, ?_⟩) hS ?_
    rotate_left
    · intro w' _
      go_simp
      try with_reducible rfl
    refine wpAnyH_take (i := 9) (v := ?_) (by simp only [List.getElem?_toArray, List.getElem?_cons_zero, List.getElem?_cons_succ]; rfl) (by kernel_rfl) (by kernel_rfl) (by kernel_rfl) (by exact fun _ _ _ h => h) (Or.inl ⟨by rfl, ?_⟩) hS ?_
    rotate_left
    · intro w' _
      go_simp
      try with_reducible rfl
    refine wpAnyH_take (i := 10) (v := ?_) (by simp only [List.getElem?_toArray, List.getElem?_cons_zero, List.getElem?_cons_succ]; rfl) (by kernel_rfl) (by kernel_rfl) (by kernel_rfl) (by exact fun _ _ _ h => h) (Or.inl ⟨by rfl, ?_⟩) hS ?_
    rotate_left
    · intro w' _
      go_simp
      try with_reducible rfl
    refine wpAnyH_take (i := 11) (v := ?_) (by simp only [List.getElem?_toArray, List.getElem?_cons_zero, List.getElem?_cons_succ]; rfl) (by kernel_rfl) (by kernel_rfl) (by kernel_rfl) (by exact fun _ _ _ h => h) (Or.inl ⟨by rfl, ?_⟩) hS ?_
    rotate_left
    · intro w' _
      go_simp
      try with_reducible rfl
    refine wpAnyH_take (i := 12) (v := ?_) (by simp only [List.getElem?_toArray, List.getElem?_cons_zero, List.getElem?_cons_succ]; rfl) (by kernel_rfl) (by kernel_rfl) (by kernel_rfl) (by exact fun _ _ _ h => h) (Or.inl ⟨by rfl, ?_⟩) hS ?_
    rotate_left
    · intro w' _
      go_simp
      try with_reducible rfl
    refine wpAnyH_take (i := 13) (v := ?_) (by simp only [List.getElem?_toArray, List.getElem?_cons_zero, List.getElem?_cons_succ]; rfl) (by kernel_rfl) (by kernel_rfl) (by kernel_rfl) (by exact fun _ _ _ h => h) (Or.inl ⟨by rfl, ?_⟩) hS ?_
    rotate_left
    · intro w' _
      go_simp
      try with_reducible rfl
    refine wpAnyH_take (i := 14) (v := ?_) (by simp only [List.getElem?_toArray, List.getElem?_cons_zero, List.getElem?_cons_succ]; rfl) (by kernel_rfl) (by kernel_rfl) (by kernel_rfl) (by exact fun _ _ _ h => h) (Or.inl ⟨by rfl, ?_⟩) hS ?_
    rotate_left
    · intro w' _
      go_simp
      try with_reducible rfl
    refine wpAnyH_take (i := 15) (v := ?_) (by simp only [List.getElem?_toArray, List.getElem?_cons_zero, List.getElem?_cons_succ]; rfl) (by kernel_rfl) (by kernel_rfl) (by kernel_rfl) (by exact fun _ _ _ h => h) (Or.inl ⟨by rfl, ?_⟩) hS ?_
    rotate_left
    · intro w' _
      go_simp
      try with_reducible rfl
    refine wpAnyH_take (i := 16) (v := ?_) (by simp only [List.getElem?_toArray, List.getElem?_cons_zero, List.getElem?_cons_succ]; rfl) (by kernel_rfl) (by kernel_rfl) (by kernel_rfl) (by exact fun _ _ _ h => h) (Or.inl ⟨by rfl, ?_⟩) hS ?_
    rotate_left
    · intro w' _
      go_simp
      try with_reducible rfl
    refine wpAnyH_ready (rs := [7]) (by kernel_rfl) (by simp) ?_
    refine AllReadyH.cons (by simp only [List.getElem?_toArray, List.getElem?_cons_zero, List.getElem?_cons_succ]; rfl) (fun K' hK => ?_) AllReadyH.nil
    go_simp
    refine hK.out _ _ ((HbA.out.1.cell (p := ⟨T, 3 + wh * 2 + 1, none⟩) lt2).trans H2c.out) (fun _ => ?_)
    clear hK K' q4 q5 q6 q7
    refine wpAnyH_ready (rs := [8]) (by kernel_rfl) (by simp) ?_
    refine AllReadyH.cons (by simp only [List.getElem?_toArray, List.getElem?_cons_zero, List.getElem?_cons_succ]; rfl) (fun K' hK => ?_) AllReadyH.nil
    go_simp
    refine cm.mono ?_
    rintro _ w4 ⟨rfl, hb4⟩
    have H4 : Hid (Below w2.heap.size w2 w4 ∧ Below w3.heap.size w3 w4) := ⟨ch HbA.out.1 hb4, ch HbA.out.2 hb4⟩
    refine hK.out _ _ ((H4.out.1.cell (p := ⟨T, 3 + wh * 2 + 1, none⟩) lt2).trans H2c.out) (fun _ => ?_)
    clear hK K' hb4 HbA cm
    refine wpAnyH_ready (rs := [17]) (by kernel_rfl) (by simp) ?_
    refine AllReadyH.cons (by simp only [List.getElem?_toArray, List.getElem?_cons_zero, List.getElem?_cons_succ]; rfl) (fun K' hK => ?_) AllReadyH.nil
    go_simp
    refine (rcode_any w4 a bb bo n cc Z (HV.out.below H4.out.1) HZ.out Hnil.out (by omega) k0.ba k0.bb 0 k0.bn k0.bc k0.X (He.out.vb.below H4.out.1) He.out.kd.bx He.out.bl (by omega) (HGr.out.below H4.out.1)).mono ?_
    rintro _ w5 ⟨rfl, hb5⟩
    have H5 : Hid (Below w2.heap.size w2 w5 ∧ Below w3.heap.size w3 w5) := ⟨ch H4.out.1 hb5, ch H4.out.2 hb5⟩
    rw [← HD.out]
    refine hK.out _ _ ((H5.out.1.cell (p := ⟨T, 3 + wh * 2 + 1, none⟩) lt2).trans H2c.out) (fun hS => ?_)
    clear hK K' hb5 H4
    refine wpAnyH_take (i := 18) (v := ?_) (by simp only [List.getElem?_toArray, List.getElem?_cons_zero, List.getElem?_cons_succ]; rfl) (by kernel_rfl) (by kernel_rfl) (by kernel_rfl) (by exact fun _ _ _ h => h) (Or.inl ⟨by rfl, ?_⟩) hS ?_
    rotate_left
    · intro w' _
      go_simp
      try with_reducible rfl
    refine wpAnyH_take (i := 19) (v := ?_) (by simp only [List.getElem?_toArray, List.getElem?_cons_zero, List.getElem?_cons_succ]; rfl) (by kernel_rfl) (by kernel_rfl) (by kernel_rfl) (by exact fun _ _ _ h => h) (Or.inl ⟨by rfl, ?_⟩) hS ?_
    rotate_left
    · intro w' _
      go_simp
      try with_reducible rfl
    refine wpAnyH_take (i := 20) (v := ?_) (by simp only [List.getElem?_toArray, List.getElem?_cons_zero, List.getElem?_cons_succ]; rfl) (by kernel_rfl) (by kernel_rfl) (by kernel_rfl) (by exact fun _ _ _ h => h) (Or.inl ⟨by kernel_rfl, ?_⟩) hS ?_
    rotate_left
    · intro w' _
      go_simp
      try with_reducible rfl
    refine wpAnyH_take (i := 21) (v := ?_) (by simp only [List.getElem?_toArray, List.getElem?_cons_zero, List.getElem?_cons_succ]; rfl) (by kernel_rfl) (by kernel_rfl) (by kernel_rfl) (by exact fun _ _ _ h => h) (Or.inl ⟨by kernel_rfl, ?_⟩) hS ?_
    rotate_left
    · intro w' _
      go_simp
      try with_reducible rfl
    refine wpAnyH_take (i := 22) (v := ?_) (by simp only [List.getElem?_toArray, List.getElem?_cons_zero, List.getElem?_cons_succ]; rfl) (by kernel_rfl) (by kernel_rfl) (by kernel_rfl) (by exact fun _ _ _ h => h) (Or.inl ⟨by kernel_rfl, ?_⟩) hS ?_
    rotate_left
    · intro w' _
      go_simp
      try with_reducible rfl
    refine wpAnyH_take (i := 23) (v := ?_) (by simp only [List.getElem?_toArray, List.getElem?_cons_zero, List.getElem?_cons_succ]; rfl) (by kernel_rfl) (by kernel_rfl) (by kernel_rfl) (by exact fun _ _ _ h => h) (Or.inl ⟨by kernel_rfl, ?_⟩) hS ?_
    rotate_left
    · intro w' _
      go_simp
      try with_reducible rfl
    refine wpAnyH_take (i := 24) (v := ?_) (by simp only [List.getElem?_toArray, List.getElem?_cons_zero, List.getElem?_cons_succ]; rfl) (by kernel_rfl) (by kernel_rfl) (by kernel_rfl) (by exact fun _ _ _ h => h) (Or.inl ⟨by kernel_rfl, ?_⟩) hS ?_
    rotate_left
    · intro w' _
      go_simp
      try with_reducible rfl
    refine wpAnyH_take (i := 25) (v := ?_) (by simp only [List.getElem?_toArray, List.getElem?_cons_zero, List.getElem?_cons_succ]; rfl) (by kernel_rfl) (by kernel_rfl) (by kernel_rfl) (by exact fun _ _ _ h => h) (Or.inl ⟨by kernel_rfl, ?_⟩) hS ?_
    rotate_left
    · intro w' _
      go_simp
      try with_reducible rfl
    refine wpAnyH_take (i := 26) (v := ?_) (by simp only [List.getElem?_toArray, List.getElem?_cons_zero, List.getElem?_cons_succ]; rfl) (by kernel_rfl) (by kernel_rfl) (by kernel_rfl) (by exact fun _ _ _ h => h) (Or.inl ⟨by kernel_rfl, ?_⟩) hS ?_
    rotate_left
    · intro w' _
      go_simp
      try with_reducible rfl
    refine wpAnyH_take (i := 27) (v := ?_) (by simp only [List.getElem?_toArray, List.getElem?_cons_zero, List.getElem?_cons_succ]; rfl) (by kernel_rfl) (by kernel_rfl) (by kernel_rfl) (by exact fun _ _ _ h => h) (Or.inl ⟨by kernel_rfl, ?_⟩) hS ?_
    rotate_left
    · intro w' _
      go_simp
      try with_reducible rfl
    refine wpAnyH_ready (rs := [28]) (by kernel_rfl) (by simp) ?_
    refine AllReadyH.cons (by simp only [List.getElem?_toArray, List.getElem?_cons_zero, List.getElem?_cons_succ]; rfl) (fun K' hK => ?_) AllReadyH.nil
    go_simp
    refine (aswas_yes w5 gl capl k0.ba k0.bb 0 k0.bn k0.bc k0.X (He.out.vb.below H5.out.1) ((HL3.out.1.below H5.out.2).view He.out.kd.bx (by omega)) HL3.out.1.cap).mono ?_
    rintro _ w6 ⟨rfl, q8, hw8⟩
    have b56 : Below w5.heap.size w5 w6 := by rw [hw8]; exact below_drewN (Below.refl _ _) q8
    have H6' : Hid (Below w2.heap.size w2 w6) := ch H5.out.1 b56
    refine hK.out _ _ ((H6'.out.cell (p := ⟨T, 3 + wh * 2 + 1, none⟩) lt2).trans H2c.out) (fun hS => ?_)
    clear hK K' hw8 b56 H5
    refine wpAnyH_take (i := 29) (v := ?_) (by simp only [List.getElem?_toArray, List.getElem?_cons_zero, List.getElem?_cons_succ]; rfl) (by kernel_rfl) (by kernel_rfl) (by kernel_rfl) (by exact fun _ _ _ h => h) (Or.inl ⟨by rfl, ?_⟩) hS ?_
    rotate_left
    · intro w' _
      go_simp
      try with_reducible rfl
    refine wpAnyH_take (i := 30) (v := ?_) (by simp only [List.getElem?_toArray, List.getElem?_cons_zero, List.getElem?_cons_succ]; rfl) (by kernel_rfl) (by kernel_rfl) (by kernel_rfl) (by exact fun _ _ _ h => h) (Or.inl ⟨by rfl, ?_⟩) hS ?_
    rotate_left
    · intro w' _
      go_simp
      try with_reducible rfl
    refine wpAnyH_done (by kernel_rfl) ?_ _
    have w02 := HW.out.size
    have H6 : Hid (Tb B0 w6 T (max c (wh + 1)) (L + 400) K ∧ InOk w6 g n cap Z ∧ View w6 a bb bo n (fun i => (Z i : Int)) ∧ Below B0 w w6 ∧ T ≠ g ∧ ∀ j, j < max c (wh + 1) → Off g (K j)) := by
      have mx : max c (wh + 1) = c := by omega
      rw [mx]
      exact ⟨(HT.out.below H6'.out).more (by omega), HI.out.below H6'.out, HV.out.below H6'.out, HW.out.trans (H6'.out.mono (by omega)), HOg.out⟩
    clear HT HI HV HW HOg H6' HGr H2 He Hf Hk0 H2c HD eqh hS lt2 HL3 Hq
    go_wp2_with fail
    refine (aswas_yes w6 g cap a bb bo n cc Z H6.out.2.2.1 (H6.out.2.1.view HZ.out (by omega)) H6.out.2.1.cap).mono ?_
    rintro _ w8 ⟨rfl, q8, hw8⟩
    have b8 : Below w6.heap.size w6 w8 := by rw [hw8]; exact below_drewN (Below.refl _ _) q8
    have HT8 : Hid (Tb B0 w8 T (max c (wh + 1)) (L + 400) K ∧ InOk w8 g n cap Z ∧ Below B0 w w8) := ⟨H6.out.1.below b8, H6.out.2.1.below b8, H6.out.2.2.2.1.trans (b8.mono (by have := H6.out.2.2.2.1.size; omega))⟩
    clear hw8 b8
    go_wp2_with fail
    obtain ⟨fi, hri, hfi⟩ := HT8.out.2.1.row
    refine (over_any w8 g n cap cap fi Z hri (fun i hi => by rw [hfi i (by omega)]; unfold cat; rw [if_pos hi]) (fun i _ => HZ.out i) (by have := HT8.out.2.1.cap; omega) (by omega)).mono ?_
    rintro _ w9 ⟨rfl, hs9⟩
    have HF : Hid (Tb B0 w9 T (max c (wh + 1)) (L + 400) K ∧ Below B0 w w9) := ⟨HT8.out.1.keep g (fun k hk hkg => hs9.block k hk hkg) H6.out.2.2.2.2.1 H6.out.2.2.2.2.2, HT8.out.2.2.trans (hs9.below (by omega) (by have := HT8.out.2.2.size; omega))⟩
    clear hs9 hri hfi HT8
    go_wp2_with fail
    go_ret
    exact ⟨rfl, _, HF.out.1, HF.out.2⟩
  · have sl := slice_upto a n cc 400 (by omega)
    have v1 : View w a bb bo 400 (fun i => (Z i : Int)) := ⟨fun h0 => hv.at_ (by omega), fun i hi => hv.cell i (by omega), fun i hi => hv.bd i (by omega), by omega⟩
    have b1 : Below w.heap.size w (w.alloc (.cells #[.int .i64 5, .int .i64 which, .slice a n cc] 49)) := (Below.refl _ _).alloc (Nat.le_refl _) _
    have k1 : (w.alloc (.cells #[.int .i64 5, .int .i64 which, .slice a n cc] 49)).cell? ⟨w.heap.size, 0, none⟩ = some (.int .i64 5) := by rw [cell_of_row _ _ _ _ 49 _ (heap_alloc_new w _)]; rfl
    have cr := roomy_any (w.alloc (.cells #[.int .i64 5, .int .i64 which, .slice a n cc] 49)) a bb bo 400 cc Z (v1.below b1) hnil (by omega)
    have HH : Hid (Tb B0 w T c L K ∧ View w a bb bo 400 (fun i => (Z i : Int)) ∧ Gr w ∧ Below w.heap.size w (w.alloc (.cells #[.int .i64 5, .int .i64 which, .slice a n cc] 49)) ∧ (w.alloc (.cells #[.int .i64 5, .int .i64 which, .slice a n cc] 49)).cell? ⟨w.heap.size, 0, none⟩ = some (.int .i64 5)) := ⟨h, v1, hG, b1, k1⟩
    have Hfar : Hid (0 < n → bb ≠ T ∧ ∀ j, j < c → bb ≠ (K j).p) := hfar
    have HZ : Hid (∀ i, Z i < 256) := hZ
    have Hnil : Hid (a = none → cc = 0) := hnil
    clear h hv hG v1 b1 k1 hfar hZ hnil
    go_enter Tryd.func15, Tryd.ntmps15
    go_wp2_with fail
    refine cr.mono ?_
    rintro _ w2 ⟨g, cap, rfl, own2, hcap2, hg2, hgl2, hb2⟩
    rw [World.size_alloc] at hg2
    have b02 : Below w.heap.size w w2 := ch HH.out.2.2.2.1 hb2
    have ck : w2.cell? ⟨w.heap.size, 0, none⟩ = some (.int .i64 5) := (hb2.cell (p := ⟨w.heap.size, 0, none⟩) (by show w.heap.size < _; simp)).trans HH.out.2.2.2.2
    have HT : Hid (Tb B0 w2 T c L K) := HH.out.1.below b02
    have HI : Hid (InOk w2 g 400 cap Z) := in_of_own own2 hcap2
    have HV : Hid (View w2 a bb bo 400 (fun i => (Z i : Int))) := HH.out.2.1.below b02
    have HW : Hid (Below B0 w w2) := b02.mono (by omega)
    have HGr : Hid (Gr w2) := HH.out.2.2.1.below b02
    have HOg : Hid (T ≠ g ∧ ∀ j, j < c → Off g (K j)) := ⟨by omega, HH.out.1.off_new g (by omega)⟩
    have hbb : 0 < 400 → bb < w.heap.size := fun h0 => HH.out.2.1.lt h0
    clear sl
    clear own2 hb2 b02 cr HH
    obtain ⟨k0, hk0⟩ : ∃ k, k = K wh := ⟨_, rfl⟩
    obtain ⟨f, hr2, hf2⟩ := HT.out.row
    obtain ⟨f1, f2, f3⟩ := hf2 wh (by omega)
    rw [← hk0] at f1 f2 f3
    have e0 : Ent w2 k0 := by rw [hk0]; exact HT.out.ent wh (by omega)
    have ln0 : k0.sn ≤ 400 ∧ k0.bn ≤ L := by rw [hk0]; exact HT.out.len wh (by omega)
    have Hk0 : Hid (k0 = K wh) := hk0
    have H2 : Hid (w2.rowIs T 46 9 f ∧ ∀ j, j < c → Cells f j (K j)) := ⟨hr2, hf2⟩
    have He : Hid (Ent w2 k0) := e0
    have Hf : Hid (f wh = .pointer (some ⟨k0.p, 0, none⟩) ∧ f (3 + 2 * wh) = .slice k0.sa k0.sn k0.sc ∧ f (4 + 2 * wh) = .slice k0.ba k0.bn k0.bc) := ⟨f1, f2, f3⟩
    have ct : w2.cell? ⟨T, wh, none⟩ = some (.pointer (some ⟨k0.p, 0, none⟩)) := by rw [hr2.cell (i := wh) (by omega), f1]
    have cs : w2.cell? ⟨T, 3 + wh * 2, none⟩ = some (.slice k0.sa k0.sn k0.sc) := by rw [hr2.cell (i := 3 + wh * 2) (by omega), show 3 + wh * 2 = 3 + 2 * wh by omega, f2]
    have cb : w2.cell? ⟨T, 3 + wh * 2 + 1, none⟩ = some (.slice k0.ba k0.bn k0.bc) := by rw [hr2.cell (i := 3 + wh * 2 + 1) (by omega), show 3 + wh * 2 + 1 = 4 + 2 * wh by omega, f3]
    clear ct cs
    clear hk0 hr2 hf2 f1 f2 f3 e0
    go_wp2_with fail
    clear ck
    refine (roomy_any w2 k0.ba k0.bb 0 k0.bn k0.bc k0.X He.out.vb He.out.bl (by omega)).mono ?_
    rintro _ w3 ⟨gl, capl, rfl, own3, hcap3, hgl3, hlt3, hb3⟩
    have lt2 : T < w2.heap.size := HT.out.lt
    have HL3 : Hid (InOk w3 gl k0.bn capl k0.X ∧ Below w2.heap.size w2 w3) := ⟨in_of_own own3 hcap3, hb3⟩
    obtain ⟨kk, hkk⟩ : ∃ x, x = k0.bn / 3 := ⟨_, rfl⟩
    have q1 : ((k0.bn : Nat) : Int).tdiv 3 = (kk : Int) := by rw [Int.tdiv_eq_ediv_of_nonneg (by omega)]; omega
    have q2 : ((k0.bn : Nat) : Int) / 3 = (kk : Int) := by omega
    have q3 : kk ≤ k0.bn := by omega
    have q4 : (kk : Int) ≤ (k0.bn : Int) := by omega
    have q5 : (kk : Int) ≤ (capl : Int) := by omega
    have q6 : ¬ capl = kk := by omega
    have q7 : kk ≤ capl := by omega
    have Hq : Hid (kk ≤ k0.bn) := q3
    have bd3 : Below w3.heap.size w3 w3.drew := (Below.refl _ _).drew
    have H2c : Hid (w2.cell? ⟨T, 3 + wh * 2 + 1, none⟩ = some (.slice k0.ba k0.bn k0.bc)) := cb
    have cS : w3.drew.cell? ⟨T, 3 + wh * 2 + 1, none⟩ = some (.slice k0.ba k0.bn k0.bc) := ((hb3.trans (bd3.mono hb3.size)).cell (p := ⟨T, 3 + wh * 2 + 1, none⟩) lt2).trans cb
    have vl := (HL3.out.1.head He.out.kd.bx (by omega)).below bd3
    have pc := parts_cut (k := kk) (c := capl) (c2 := capl - kk) (A2 := some ⟨gl, kk, none⟩) vl He.out.kd.bx q3 q7 (fun _ => rfl) (by omega) 22
    have bA : Below w2.heap.size w2 (w3.drew.alloc (.cells #[.slice (some ⟨gl, 0, none⟩) kk capl, .slice none 0 0, .slice (some ⟨gl, kk, none⟩) (k0.bn - kk) (capl - kk)] 22)) := (hb3.trans (bd3.mono hb3.size)).alloc hb3.size _
    have cm := mcodes_any _ (some ⟨g, 0, none⟩) g 0 400 cap Z ((HI.out.head HZ.out (by omega)).below bA) (by have := HI.out.cap; omega) HZ.out _ _ _ 3 3 _ _ _ _ _ _ pc (HGr.out.below bA).g (by omega) (by rw [tot_cut kk k0.bn q3]; omega)
    rw [tot_cut kk k0.bn q3, hmac_congr (jn_cut3 kk k0.bn k0.X)] at cm
    obtain ⟨D, hD⟩ : ∃ D, D = hmac (blk 400 Z) k0.bn k0.X := ⟨_, rfl⟩
    rw [← hD] at cm
    have HD : Hid (D = hmac (blk 400 Z) k0.bn k0.X) := hD
    have HbA : Hid (Below w2.heap.size w2 (w3.drew.alloc (.cells #[.slice (some ⟨gl, 0, none⟩) kk capl, .slice none 0 0, .slice (some ⟨gl, kk, none⟩) (k0.bn - kk) (capl - kk)] 22)) ∧ Below w3.heap.size w3 (w3.drew.alloc (.cells #[.slice (some ⟨gl, 0, none⟩) kk capl, .slice none 0 0, .slice (some ⟨gl, kk, none⟩) (k0.bn - kk) (capl - kk)] 22))) := ⟨bA, bd3.alloc (Nat.le_refl _) _⟩
    have eqh := fun w0 => eq_hashA w0 D
    clear own3 hb3 hkk hD vl pc bd3 bA cb q3
    go_wp2_with fail
    clear q1 q2
    refine wp_region_held_drew (S := fun w' => w'.cell? ⟨T, 3 + wh * 2 + 1, none⟩ = some (.slice k0.ba k0.bn k0.bc)) (by kernel_rfl) cS ?_
    intro hS
    change wpAnyH _ _ _ _ _ 31 _ _ _
    clear cS
    refine wpAnyH_take (i := 0) (v := ?_) (by simp only [List.getElem?_toArray, List.getElem?_cons_zero]; rfl) (by kernel_rfl) (by kernel_rfl) (by kernel_rfl) (by exact fun _ _ _ h => h) (Or.inl ⟨by rfl, ?_⟩) hS ?_
    rotate_left
    · intro w' _
      go_simp
      try with_reducible rfl
    refine wpAnyH_take (i := 1) (v := ?_) (by simp only [List.getElem?_toArray, List.getElem?_cons_zero, List.getElem?_cons_succ]; rfl) (by kernel_rfl) (by kernel_rfl) (by kernel_rfl) (by exact fun _ _ _ h => h) (Or.inl ⟨by rfl, ?_⟩) hS ?_
    rotate_left
    · intro w' _
      go_simp
      try with_reducible rfl
    refine wpAnyH_take (i := 2) (v := ?_) (by simp only [List.getElem?_toArray, List.getElem?_cons_zero, List.getElem?_cons_succ]; rfl) (by kernel_rfl) (by kernel_rfl) (by kernel_rfl) (by exact fun _ _ _ h => h) (Or.inl ⟨by rfl, ?_⟩) hS ?_
    rotate_left
    · intro w' _
      go_simp
      try with_reducible rfl
    refine wpAnyH_take (i := 3) (v := ?_) (by simp only [List.getElem?_toArray, List.getElem?_cons_zero, List.getElem?_cons_succ]; rfl) (by kernel_rfl) (by kernel_rfl) (by kernel_rfl) (by exact fun _ _ _ h => h) (Or.inl ⟨by rfl, ?_⟩) hS ?_
    rotate_left
    · intro w' _
      go_simp
      try with_reducible rfl
    refine wpAnyH_take (i := 4) (v := ?_) (by simp only [List.getElem?_toArray, List.getElem?_cons_zero, List.getElem?_cons_succ]; rfl) (by kernel_rfl) (by kernel_rfl) (by kernel_rfl) (by exact fun _ _ _ h => h) (Or.inl ⟨by rfl, ?_⟩) hS ?_
    rotate_left
    · intro w' _
      go_simp
      try with_reducible rfl
    refine wpAnyH_take (i := 5) (v := ?_) (by simp only [List.getElem?_toArray, List.getElem?_cons_zero, List.getElem?_cons_succ]; rfl) (by kernel_rfl) (by kernel_rfl) (by kernel_rfl) (by exact fun _ _ _ h => h) (Or.inl ⟨by rfl, ?_⟩) hS ?_
    rotate_left
    · intro w' _
      go_simp
      try with_reducible rfl
    refine wpAnyH_take (i := 6) (v := ?_) (by simp only [List.getElem?_toArray, List.getElem?_cons_zero, List.getElem?_cons_succ]; rfl) (by kernel_rfl) (by kernel_rfl) (by kernel_rfl) (by exact fun _ _ _ h => h) (Or.inl ⟨by rfl, ?_⟩) hS ?_
    rotate_left
    · intro w' _
      go_simp
      try with_reducible rfl
    refine wpAnyH_take (i := 9) (v := ?_) (by simp only [List.getElem?_toArray, List.getElem?_cons_zero, List.getElem?_cons_succ]; rfl) (by kernel_rfl) (by kernel_rfl) (by kernel_rfl) (by exact fun _ _ _ h => h) (Or.inl ⟨by rfl, ?_⟩) hS ?_
    rotate_left
    · intro w' _
      go_simp
      try with_reducible rfl
    refine wpAnyH_take (i := 10) (v := ?_) (by simp only [List.getElem?_toArray, List.getElem?_cons_zero, List.getElem?_cons_succ]; rfl) (by kernel_rfl) (by kernel_rfl) (by kernel_rfl) (by exact fun _ _ _ h => h) (Or.inl ⟨by rfl, ?_⟩) hS ?_
    rotate_left
    · intro w' _
      go_simp
      try with_reducible rfl
    refine wpAnyH_take (i := 11) (v := ?_) (by simp only [List.getElem?_toArray, List.getElem?_cons_zero, List.getElem?_cons_succ]; rfl) (by kernel_rfl) (by kernel_rfl) (by kernel_rfl) (by exact fun _ _ _ h => h) (Or.inl ⟨by rfl, ?_⟩) hS ?_
    rotate_left
    · intro w' _
      go_simp
      try with_reducible rfl
    refine wpAnyH_take (i := 12) (v := ?_) (by simp only [List.getElem?_toArray, List.getElem?_cons_zero, List.getElem?_cons_succ]; rfl) (by kernel_rfl) (by kernel_rfl) (by kernel_rfl) (by exact fun _ _ _ h => h) (Or.inl ⟨by rfl, ?_⟩) hS ?_
    rotate_left
    · intro w' _
      go_simp
      try with_reducible rfl
    refine wpAnyH_take (i := 13) (v := ?_) (by simp only [List.getElem?_toArray, List.getElem?_cons_zero, List.getElem?_cons_succ]; rfl) (by kernel_rfl) (by kernel_rfl) (by kernel_rfl) (by exact fun _ _ _ h => h) (Or.inl ⟨by rfl, ?_⟩) hS ?_
    rotate_left
    · intro w' _
      go_simp
      try with_reducible rfl
    refine wpAnyH_take (i := 14) (v := ?_) (by simp only [List.getElem?_toArray, List.getElem?_cons_zero, List.getElem?_cons_succ]; rfl) (by kernel_rfl) (by kernel_rfl) (by kernel_rfl) (by exact fun _ _ _ h => h) (Or.inl ⟨by rfl, ?_⟩) hS ?_
    rotate_left
    · intro w' _
      go_simp
      try with_reducible rfl
    refine wpAnyH_take (i := 15) (v := ?_) (by simp only [List.getElem?_toArray, List.getElem?_cons_zero, List.getElem?_cons_succ]; rfl) (by kernel_rfl) (by kernel_rfl) (by kernel_rfl) (by exact fun _ _ _ h => h) (Or.inl ⟨by rfl, ?_⟩) hS ?_
    rotate_left
    · intro w' _
      go_simp
      try with_reducible rfl
    refine wpAnyH_take (i := 16) (v := ?_) (by simp only [List.getElem?_toArray, List.getElem?_cons_zero, List.getElem?_cons_succ]; rfl) (by kernel_rfl) (by kernel_rfl) (by kernel_rfl) (by exact fun _ _ _ h => h) (Or.inl ⟨by rfl, ?_⟩) hS ?_
    rotate_left
    · intro w' _
      go_simp
      try with_reducible rfl
    refine wpAnyH_ready (rs := [7]) (by kernel_rfl) (by simp) ?_
    refine AllReadyH.cons (by simp only [List.getElem?_toArray, List.getElem?_cons_zero, List.getElem?_cons_succ]; rfl) (fun K' hK => ?_) AllReadyH.nil
    go_simp
    refine hK.out _ _ ((HbA.out.1.cell (p := ⟨T, 3 + wh * 2 + 1, none⟩) lt2).trans H2c.out) (fun _ => ?_)
    clear hK K' q4 q5 q6 q7
    refine wpAnyH_ready (rs := [8]) (by kernel_rfl) (by simp) ?_
    refine AllReadyH.cons (by simp only [List.getElem?_toArray, List.getElem?_cons_zero, List.getElem?_cons_succ]; rfl) (fun K' hK => ?_) AllReadyH.nil
    go_simp
    refine cm.mono ?_
    rintro _ w4 ⟨rfl, hb4⟩
    have H4 : Hid (Below w2.heap.size w2 w4 ∧ Below w3.heap.size w3 w4) := ⟨ch HbA.out.1 hb4, ch HbA.out.2 hb4⟩
    refine hK.out _ _ ((H4.out.1.cell (p := ⟨T, 3 + wh * 2 + 1, none⟩) lt2).trans H2c.out) (fun _ => ?_)
    clear hK K' hb4 HbA cm
    refine wpAnyH_ready (rs := [17]) (by kernel_rfl) (by simp) ?_
    refine AllReadyH.cons (by simp only [List.getElem?_toArray, List.getElem?_cons_zero, List.getElem?_cons_succ]; rfl) (fun K' hK => ?_) AllReadyH.nil
    go_simp
    refine (rcode_any w4 a bb bo 400 cc Z (HV.out.below H4.out.1) HZ.out Hnil.out (by omega) k0.ba k0.bb 0 k0.bn k0.bc k0.X (He.out.vb.below H4.out.1) He.out.kd.bx He.out.bl (by omega) (HGr.out.below H4.out.1)).mono ?_
    rintro _ w5 ⟨rfl, hb5⟩
    have H5 : Hid (Below w2.heap.size w2 w5 ∧ Below w3.heap.size w3 w5) := ⟨ch H4.out.1 hb5, ch H4.out.2 hb5⟩
    rw [← HD.out]
    refine hK.out _ _ ((H5.out.1.cell (p := ⟨T, 3 + wh * 2 + 1, none⟩) lt2).trans H2c.out) (fun hS => ?_)
    clear hK K' hb5 H4
    refine wpAnyH_take (i := 18) (v := ?_) (by simp only [List.getElem?_toArray, List.getElem?_cons_zero, List.getElem?_cons_succ]; rfl) (by kernel_rfl) (by kernel_rfl) (by kernel_rfl) (by exact fun _ _ _ h => h) (Or.inl ⟨by rfl, ?_⟩) hS ?_
    rotate_left
    · intro w' _
      go_simp
      try with_reducible rfl
    refine wpAnyH_take (i := 19) (v := ?_) (by simp only [List.getElem?_toArray, List.getElem?_cons_zero, List.getElem?_cons_succ]; rfl) (by kernel_rfl) (by kernel_rfl) (by kernel_rfl) (by exact fun _ _ _ h => h) (Or.inl ⟨by rfl, ?_⟩) hS ?_
    rotate_left
    · intro w' _
      go_simp
      try with_reducible rfl
    refine wpAnyH_take (i := 20) (v := ?_) (by simp only [List.getElem?_toArray, List.getElem?_cons_zero, List.getElem?_cons_succ]; rfl) (by kernel_rfl) (by kernel_rfl) (by kernel_rfl) (by exact fun _ _ _ h => h) (Or.inl ⟨by kernel_rfl, ?_⟩) hS ?_
    rotate_left
    · intro w' _
      go_simp
      try with_reducible rfl
    refine wpAnyH_take (i := 21) (v := ?_) (by simp only [List.getElem?_toArray, List.getElem?_cons_zero, List.getElem?_cons_succ]; rfl) (by kernel_rfl) (by kernel_rfl) (by kernel_rfl) (by exact fun _ _ _ h => h) (Or.inl ⟨by kernel_rfl, ?_⟩) hS ?_
    rotate_left
    · intro w' _
      go_simp
      try with_reducible rfl
    refine wpAnyH_take (i := 22) (v := ?_) (by simp only [List.getElem?_toArray, List.getElem?_cons_zero, List.getElem?_cons_succ]; rfl) (by kernel_rfl) (by kernel_rfl) (by kernel_rfl) (by exact fun _ _ _ h => h) (Or.inl ⟨by kernel_rfl, ?_⟩) hS ?_
    rotate_left
    · intro w' _
      go_simp
      try with_reducible rfl
    refine wpAnyH_take (i := 23) (v := ?_) (by simp only [List.getElem?_toArray, List.getElem?_cons_zero, List.getElem?_cons_succ]; rfl) (by kernel_rfl) (by kernel_rfl) (by kernel_rfl) (by exact fun _ _ _ h => h) (Or.inl ⟨by kernel_rfl, ?_⟩) hS ?_
    rotate_left
    · intro w' _
      go_simp
      try with_reducible rfl
    refine wpAnyH_take (i := 24) (v := ?_) (by simp only [List.getElem?_toArray, List.getElem?_cons_zero, List.getElem?_cons_succ]; rfl) (by kernel_rfl) (by kernel_rfl) (by kernel_rfl) (by exact fun _ _ _ h => h) (Or.inl ⟨by kernel_rfl, ?_⟩) hS ?_
    rotate_left
    · intro w' _
      go_simp
      try with_reducible rfl
    refine wpAnyH_take (i := 25) (v := ?_) (by simp only [List.getElem?_toArray, List.getElem?_cons_zero, List.getElem?_cons_succ]; rfl) (by kernel_rfl) (by kernel_rfl) (by kernel_rfl) (by exact fun _ _ _ h => h) (Or.inl ⟨by kernel_rfl, ?_⟩) hS ?_
    rotate_left
    · intro w' _
      go_simp
      try with_reducible rfl
    refine wpAnyH_take (i := 26) (v := ?_) (by simp only [List.getElem?_toArray, List.getElem?_cons_zero, List.getElem?_cons_succ]; rfl) (by kernel_rfl) (by kernel_rfl) (by kernel_rfl) (by exact fun _ _ _ h => h) (Or.inl ⟨by kernel_rfl, ?_⟩) hS ?_
    rotate_left
    · intro w' _
      go_simp
      try with_reducible rfl
    refine wpAnyH_take (i := 27) (v := ?_) (by simp only [List.getElem?_toArray, List.getElem?_cons_zero, List.getElem?_cons_succ]; rfl) (by kernel_rfl) (by kernel_rfl) (by kernel_rfl) (by exact fun _ _ _ h => h) (Or.inl ⟨by kernel_rfl, ?_⟩) hS ?_
    rotate_left
    · intro w' _
      go_simp
      try with_reducible rfl
    refine wpAnyH_ready (rs := [28]) (by kernel_rfl) (by simp) ?_
    refine AllReadyH.cons (by simp only [List.getElem?_toArray, List.getElem?_cons_zero, List.getElem?_cons_succ]; rfl) (fun K' hK => ?_) AllReadyH.nil
    go_simp
    refine (aswas_yes w5 gl capl k0.ba k0.bb 0 k0.bn k0.bc k0.X (He.out.vb.below H5.out.1) ((HL3.out.1.below H5.out.2).view He.out.kd.bx (by omega)) HL3.out.1.cap).mono ?_
    rintro _ w6 ⟨rfl, q8, hw8⟩
    have b56 : Below w5.heap.size w5 w6 := by rw [hw8]; exact below_drewN (Below.refl _ _) q8
    have H6' : Hid (Below w2.heap.size w2 w6) := ch H5.out.1 b56
    refine hK.out _ _ ((H6'.out.cell (p := ⟨T, 3 + wh * 2 + 1, none⟩) lt2).trans H2c.out) (fun hS => ?_)
    clear hK K' hw8 b56 H5
    refine wpAnyH_take (i := 29) (v := ?_) (by simp only [List.getElem?_toArray, List.getElem?_cons_zero, List.getElem?_cons_succ]; rfl) (by kernel_rfl) (by kernel_rfl) (by kernel_rfl) (by exact fun _ _ _ h => h) (Or.inl ⟨by rfl, ?_⟩) hS ?_
    rotate_left
    · intro w' _
      go_simp
      try with_reducible rfl
    refine wpAnyH_take (i := 30) (v := ?_) (by simp only [List.getElem?_toArray, List.getElem?_cons_zero, List.getElem?_cons_succ]; rfl) (by kernel_rfl) (by kernel_rfl) (by kernel_rfl) (by exact fun _ _ _ h => h) (Or.inl ⟨by rfl, ?_⟩) hS ?_
    rotate_left
    · intro w' _
      go_simp
      try with_reducible rfl
    refine wpAnyH_done (by kernel_rfl) ?_ _
    have w02 := HW.out.size
    have H6 : Hid (Tb B0 w6 T (max c (wh + 1)) (L + 400) K ∧ InOk w6 g 400 cap Z ∧ View w6 a bb bo 400 (fun i => (Z i : Int)) ∧ Below B0 w w6 ∧ T ≠ g ∧ ∀ j, j < max c (wh + 1) → Off g (K j)) := by
      have mx : max c (wh + 1) = c := by omega
      rw [mx]
      exact ⟨(HT.out.below H6'.out).more (by omega), HI.out.below H6'.out, HV.out.below H6'.out, HW.out.trans (H6'.out.mono (by omega)), HOg.out⟩
    clear HT HI HV HW HOg H6' HGr H2 He Hf Hk0 H2c HD eqh hS lt2 HL3 Hq
    go_wp2_with fail
    refine (aswas_yes w6 g cap a bb bo 400 cc Z H6.out.2.2.1 (H6.out.2.1.view HZ.out (by omega)) H6.out.2.1.cap).mono ?_
    rintro _ w8 ⟨rfl, q8, hw8⟩
    have b8 : Below w6.heap.size w6 w8 := by rw [hw8]; exact below_drewN (Below.refl _ _) q8
    have HT8 : Hid (Tb B0 w8 T (max c (wh + 1)) (L + 400) K ∧ InOk w8 g 400 cap Z ∧ Below B0 w w8) := ⟨H6.out.1.below b8, H6.out.2.1.below b8, H6.out.2.2.2.1.trans (b8.mono (by have := H6.out.2.2.2.1.size; omega))⟩
    clear hw8 b8
    go_wp2_with fail
    obtain ⟨fi, hri, hfi⟩ := HT8.out.2.1.row
    refine (over_any w8 g 400 cap cap fi Z hri (fun i hi => by rw [hfi i (by omega)]; unfold cat; rw [if_pos hi]) (fun i _ => HZ.out i) (by have := HT8.out.2.1.cap; omega) (by omega)).mono ?_
    rintro _ w9 ⟨rfl, hs9⟩
    have HF : Hid (Tb B0 w9 T (max c (wh + 1)) (L + 400) K ∧ Below B0 w w9) := ⟨HT8.out.1.keep g (fun k hk hkg => hs9.block k hk hkg) H6.out.2.2.2.2.1 H6.out.2.2.2.2.2, HT8.out.2.2.trans (hs9.below (by omega) (by have := HT8.out.2.2.size; omega))⟩
    clear hs9 hri hfi HT8
    go_wp2_with fail
    go_ret
    exact ⟨rfl, _, HF.out.1, HF.out.2⟩
end Go.Proofs.YtleabfmlokjllaaDoor
