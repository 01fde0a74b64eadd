/-
  MacExact: a step that writes.
-/
import Derived.Test.YtleabfmlokjllaaDoorExC
namespace Go.Proofs.YtleabfmlokjllaaDoor
open Go.RowKit

set_option maxRecDepth 100000 in
set_option maxHeartbeats 4000000 in
theorem plays_k2 (B0 : Nat) (w : World) (T c L : Nat) (K : Nat → Ks) (h : Tb B0 w T c L K) (which : Int) (wh : Nat) (hwh : which % 3 = (wh : Int)) (a : Option Addr) (bb bo n cc : Nat) (Z : Nat → Nat) (hv : View w a bb bo (min n 400) (fun i => (Z i : Int))) (hZ : ∀ i, Z i < 256) (hnil : a = none → cc = 0) (hcc : n ≤ cc)
    (hfar : 0 < n → bb ≠ T ∧ ∀ j, j < c → bb ≠ (K j).p) (hG : Gr w) (g2 : 1 < B0) (hL : L ≤ 100000) (hc : c = 3) :
    Calls Tryd.prog 15 #[.pointer (some ⟨T, 0, none⟩), .agg #[.int .i64 2, .int .i64 which, .slice a n cc]] w fun e w' => e = .returned (.bool true) ∧ ∃ K', Tb B0 w' T (max c (wh + 1)) (L + 400) K' ∧ Below B0 w w' := by
  have hw3 : wh < 3 := by omega
  have hwi : (wh : Int) < 3 := by omega
  have r := rest_eq which 3 (by decide)
  rw [hwh] at r
  have rb1 : -3 < which.tmod 3 := Int.lt_tmod_of_pos which (by decide)
  have rb2 : which.tmod 3 < 3 := Int.tmod_lt_of_pos which (by decide)
  have tlt := h.lt
  have lo := h.loT
  clear hwh
  by_cases hn : n ≤ 400
  · have v1 : View w a bb bo n (fun i => (Z i : Int)) := ⟨fun h0 => hv.at_ (by omega), fun i hi => hv.cell i (by omega), fun i hi => hv.bd i (by omega), by omega⟩
    have b1 : Below w.heap.size w (w.alloc (.cells #[.int .i64 2, .int .i64 which, .slice a n cc] 49)) := (Below.refl _ _).alloc (Nat.le_refl _) _
    have k1 : (w.alloc (.cells #[.int .i64 2, .int .i64 which, .slice a n cc] 49)).cell? ⟨w.heap.size, 0, none⟩ = some (.int .i64 2) := by rw [cell_of_row _ _ _ _ 49 _ (heap_alloc_new w _)]; rfl
    have cr := roomy_any (w.alloc (.cells #[.int .i64 2, .int .i64 which, .slice a n cc] 49)) a bb bo n cc Z (v1.below b1) hnil (by omega)
    have HH : Hid (Tb B0 w T c L K ∧ View w a bb bo n (fun i => (Z i : Int)) ∧ Gr w ∧ Below w.heap.size w (w.alloc (.cells #[.int .i64 2, .int .i64 which, .slice a n cc] 49)) ∧ (w.alloc (.cells #[.int .i64 2, .int .i64 which, .slice a n cc] 49)).cell? ⟨w.heap.size, 0, none⟩ = some (.int .i64 2)) := ⟨h, v1, hG, b1, k1⟩
    have Hfar : Hid (0 < n → bb ≠ T ∧ ∀ j, j < c → bb ≠ (K j).p) := hfar
    have HZ : Hid (∀ i, Z i < 256) := hZ
    have Hnil : Hid (a = none → cc = 0) := hnil
    clear h hv hG v1 b1 k1 hfar hZ hnil
    go_enter Tryd.func15, Tryd.ntmps15
    go_wp2_with fail
    refine cr.mono ?_
    rintro _ w2 ⟨g, cap, rfl, own2, hcap2, hg2, hgl2, hb2⟩
    rw [World.size_alloc] at hg2
    have b02 : Below w.heap.size w w2 := ch HH.out.2.2.2.1 hb2
    have ck : w2.cell? ⟨w.heap.size, 0, none⟩ = some (.int .i64 2) := (hb2.cell (p := ⟨w.heap.size, 0, none⟩) (by show w.heap.size < _; simp)).trans HH.out.2.2.2.2
    have HT : Hid (Tb B0 w2 T c L K) := HH.out.1.below b02
    have HI : Hid (InOk w2 g n cap Z) := in_of_own own2 hcap2
    have HV : Hid (View w2 a bb bo n (fun i => (Z i : Int))) := HH.out.2.1.below b02
    have HW : Hid (Below B0 w w2) := b02.mono (by omega)
    have HGr : Hid (Gr w2) := HH.out.2.2.1.below b02
    have HOg : Hid (T ≠ g ∧ ∀ j, j < c → Off g (K j)) := ⟨by omega, HH.out.1.off_new g (by omega)⟩
    have hbb : 0 < n → bb < w.heap.size := fun h0 => HH.out.2.1.lt h0
    clear own2 hb2 b02 cr HH
    obtain ⟨k0, hk0⟩ : ∃ k, k = K wh := ⟨_, rfl⟩
    obtain ⟨f, hr2, hf2⟩ := HT.out.row
    obtain ⟨f1, f2, f3⟩ := hf2 wh (by omega)
    rw [← hk0] at f1 f2 f3
    have e0 : Ent w2 k0 := by rw [hk0]; exact HT.out.ent wh (by omega)
    have ln0 : k0.sn ≤ 400 ∧ k0.bn ≤ L := by rw [hk0]; exact HT.out.len wh (by omega)
    have Hk0 : Hid (k0 = K wh) := hk0
    have H2 : Hid (w2.rowIs T 46 9 f ∧ ∀ j, j < c → Cells f j (K j)) := ⟨hr2, hf2⟩
    have He : Hid (Ent w2 k0) := e0
    have Hf : Hid (f wh = .pointer (some ⟨k0.p, 0, none⟩) ∧ f (3 + 2 * wh) = .slice k0.sa k0.sn k0.sc ∧ f (4 + 2 * wh) = .slice k0.ba k0.bn k0.bc) := ⟨f1, f2, f3⟩
    have ct : w2.cell? ⟨T, wh, none⟩ = some (.pointer (some ⟨k0.p, 0, none⟩)) := by rw [hr2.cell (i := wh) (by omega), f1]
    have cs : w2.cell? ⟨T, 3 + wh * 2, none⟩ = some (.slice k0.sa k0.sn k0.sc) := by rw [hr2.cell (i := 3 + wh * 2) (by omega), show 3 + wh * 2 = 3 + 2 * wh by omega, f2]
    have cb : w2.cell? ⟨T, 3 + wh * 2 + 1, none⟩ = some (.slice k0.ba k0.bn k0.bc) := by rw [hr2.cell (i := 3 + wh * 2 + 1) (by omega), show 3 + wh * 2 + 1 = 4 + 2 * wh by omega, f3]
    clear cs cb
    clear hk0 hr2 hf2 f1 f2 f3 e0
    go_wp2_with fail
    clear ct ck
    have gp : g ≠ k0.p := by have := (HOg.out.2 wh (by omega)).1; rw [← Hk0.out] at this; omega
    refine (mwrite_any w2 k0.p _ _ _ He.out.kd (some ⟨g, 0, none⟩) g 0 n cap Z (HI.out.head HZ.out (by omega)) HZ.out (fun _ => gp) (by have := HI.out.cap; omega) HGr.out.g (by have := HT.out.lo wh (by omega); rw [← Hk0.out] at this; omega) (by omega)).mono ?_
    rintro _ w3 ⟨rfl, hs3, kd3⟩
    have pT : k0.p ≠ T := by have := (HT.out.off wh (by omega)).1; rw [← Hk0.out] at this; exact this
    have bbp : 0 < n → bb ≠ k0.p := fun h0 => by rw [Hk0.out]; exact (Hfar.out (by omega)).2 wh (by omega)
    have bT : 0 < k0.bn → k0.bb ≠ T := fun h0 => by have := (HT.out.off wh (by omega)).2.2; rw [← Hk0.out] at this; exact this h0
    have bp : 0 < k0.bn → k0.bb ≠ k0.p := fun h0 => by have := (HT.out.far wh wh (by omega) (by omega)).2; rw [← Hk0.out] at this; exact this h0
    have z23 := hs3.size
    have r3 : w3.rowIs T 46 9 f := hs3.row H2.out.1 (fun e => pT e.symm)
    have cb3 : w3.cell? ⟨T, 3 + wh * 2 + 1, none⟩ = some (.slice k0.ba k0.bn k0.bc) := by rw [r3.cell (i := 3 + wh * 2 + 1) (by omega), show 3 + wh * 2 + 1 = 4 + 2 * wh by omega, Hf.out.2.2]
    have bd3 : Below w3.heap.size w3 w3.drew := (Below.refl _ _).drew
    have own0 := World.ownsRow_lit (base := w3.drew.heap.size) (e := 5) (size := 1) w3.drew #[] 0 (Nat.le_refl _) (by decide) rfl
    have ba3 : Below w3.heap.size w3 (w3.drew.alloc (.cells #[] 5)) := bd3.alloc (Nat.le_refl _) _
    have HVb : Hid (View w3 a bb bo n (fun i => (Z i : Int))) := HV.out.save hs3 bbp
    have HVx : Hid (View w3 k0.ba k0.bb 0 k0.bn (fun i => (k0.X i : Int))) := He.out.vb.save hs3 bp
    have HVx2 : Hid (View (w3.drew.alloc (.cells #[] 5)) k0.ba k0.bb 0 k0.bn (fun i => (k0.X i : Int))) := HVx.out.below ba3
    have lt3 : T < w3.heap.size := r3.lt
    have H3 : Hid (Save k0.p w2 w3 ∧ Kd w3 k0.p (blk k0.sn k0.S) (k0.bn + n) (cat k0.bn k0.X Z) ∧ w3.rowIs T 46 9 f) := ⟨hs3, kd3, r3⟩
    have cS : w3.drew.cell? ⟨T, 3 + wh * 2 + 1, none⟩ = some (.slice k0.ba k0.bn k0.bc) := (bd3.cell (p := ⟨T, 3 + wh * 2 + 1, none⟩) lt3).trans cb3
    have cA : (w3.drew.alloc (.cells #[] 5)).cell? ⟨T, 3 + wh * 2 + 1, none⟩ = some (.slice k0.ba k0.bn k0.bc) := (ba3.cell (p := ⟨T, 3 + wh * 2 + 1, none⟩) lt3).trans cb3
    have cA2 : (w3.alloc (.cells #[] 5)).cell? ⟨T, 3 + wh * 2 + 1, none⟩ = some (.slice k0.ba k0.bn k0.bc) := cA
    have cA3 : w3.cell? ⟨T, 3 + wh * 2 + 1, none⟩ = some (.slice k0.ba k0.bn k0.bc) := cS
    have Hbl : Hid (k0.ba = none → k0.bc = 0) := He.out.bl
    have Hkx : Hid (∀ i, k0.X i < 256) := He.out.kd.bx
    clear hs3 kd3 bd3 r3 cb3
    go_wp2_with fail
    refine wp_region_any (by kernel_rfl) ?_
    change wpAny _ _ _ _ 18 _ _ (World.drew _)
    refine wpAny_take (i := 0) (v := ?_) (by simp only [List.getElem?_toArray, List.getElem?_cons_zero]; rfl) (by kernel_rfl) (by kernel_rfl) (by kernel_rfl) (by exact fun _ _ _ h => h) (Or.inl ⟨by rfl, ?_⟩) ?_
    rotate_left
    · intro w'
      go_simp
      try with_reducible rfl
    refine wpAny_take (i := 1) (v := ?_) (by simp only [List.getElem?_toArray, List.getElem?_cons_zero, List.getElem?_cons_succ]; rfl) (by kernel_rfl) (by kernel_rfl) (by kernel_rfl) (by exact fun _ _ _ h => h) (Or.inl ⟨by rfl, ?_⟩) ?_
    rotate_left
    · intro w'
      go_simp
      try with_reducible rfl
    refine wpAny_take (i := 3) (v := ?_) (by simp only [List.getElem?_toArray, List.getElem?_cons_zero, List.getElem?_cons_succ]; rfl) (by kernel_rfl) (by kernel_rfl) (by kernel_rfl) (by exact fun _ _ _ h => h) (Or.inl ⟨by rfl, ?_⟩) ?_
    rotate_left
    · intro w'
      go_simp
      try with_reducible rfl
    refine wpAny_take (i := 4) (v := ?_) (by simp only [List.getElem?_toArray, List.getElem?_cons_zero, List.getElem?_cons_succ]; rfl) (by kernel_rfl) (by kernel_rfl) (by kernel_rfl) (by exact fun _ _ _ h => h) (Or.inl ⟨by rfl, ?_⟩) ?_
    rotate_left
    · intro w'
      go_simp
      try with_reducible rfl
    refine wpAny_take (i := 5) (v := ?_) (by simp only [List.getElem?_toArray, List.getElem?_cons_zero, List.getElem?_cons_succ]; rfl) (by kernel_rfl) (by kernel_rfl) (by kernel_rfl) (by exact fun _ _ _ h => h) (Or.inl ⟨by rfl, ?_⟩) ?_
    rotate_left
    · intro w'
      go_simp
      try with_reducible rfl
    refine wpAny_take (i := 6) (v := ?_) (by simp only [List.getElem?_toArray, List.getElem?_cons_zero, List.getElem?_cons_succ]; rfl) (by kernel_rfl) (by kernel_rfl) (by kernel_rfl) (by exact fun _ _ _ h => h) (Or.inl ⟨by rfl, ?_⟩) ?_
    rotate_left
    · intro w'
      go_simp
      try with_reducible rfl
    refine wpAny_take (i := 7) (v := ?_) (by simp only [List.getElem?_toArray, List.getElem?_cons_zero, List.getElem?_cons_succ]; rfl) (by kernel_rfl) (by kernel_rfl) (by kernel_rfl) (by exact fun _ _ _ h => h) (Or.inl ⟨by rfl, ?_⟩) ?_
    rotate_left
    · intro w'
      go_simp
      try with_reducible rfl
    refine wpAny_take (i := 8) (v := ?_) (by simp only [List.getElem?_toArray, List.getElem?_cons_zero, List.getElem?_cons_succ]; rfl) (by kernel_rfl) (by kernel_rfl) (by kernel_rfl) (by exact fun _ _ _ h => h) (Or.inl ⟨by rfl, ?_⟩) ?_
    rotate_left
    · intro w'
      go_simp
      try with_reducible rfl
    refine wpAny_take (i := 11) (v := ?_) (by simp only [List.getElem?_toArray, List.getElem?_cons_zero, List.getElem?_cons_succ]; rfl) (by kernel_rfl) (by kernel_rfl) (by kernel_rfl) (by exact fun _ _ _ h => h) (Or.inl ⟨by rfl, ?_⟩) ?_
    rotate_left
    · intro w'
      go_simp
      try with_reducible rfl
    refine wpAny_take (i := 13) (v := ?_) (by simp only [List.getElem?_toArray, List.getElem?_cons_zero, List.getElem?_cons_succ]; rfl) (by kernel_rfl) (by kernel_rfl) (by kernel_rfl) (by exact fun _ _ _ h => h) (Or.inl ⟨by rfl, ?_⟩) ?_
    rotate_left
    · intro w'
      go_simp
      try with_reducible rfl
    refine wpAny_take (i := 14) (v := ?_) (by simp only [List.getElem?_toArray, List.getElem?_cons_zero, List.getElem?_cons_succ]; rfl) (by kernel_rfl) (by kernel_rfl) (by kernel_rfl) (by exact fun _ _ _ h => h) (Or.inl ⟨by rfl, ?_⟩) ?_
    rotate_left
    · intro w'
      go_simp
      try with_reducible rfl
    refine wpAny_ready (rs := [2, 9]) (by kernel_rfl) (by simp) ?_
    refine AllReady.cons (by simp only [List.getElem?_toArray, List.getElem?_cons_zero, List.getElem?_cons_succ]; rfl) (fun K' hK => ?_) (AllReady.cons (by simp only [List.getElem?_toArray, List.getElem?_cons_zero, List.getElem?_cons_succ]; rfl) (fun K' hK => ?_) AllReady.nil)
    · go_simp
      refine hK _ _ ?_
      clear hK K'
      refine wpAny_ready (rs := [9]) (by kernel_rfl) (by simp) ?_
      refine AllReady.cons (by simp only [List.getElem?_toArray, List.getElem?_cons_zero, List.getElem?_cons_succ]; rfl) (fun K' hK => ?_) AllReady.nil
      go_simp
      refine hK _ _ ?_
      clear hK K'
      refine wpAny_ready (rs := [10]) (by kernel_rfl) (by simp) ?_
      refine AllReady.cons (by simp only [List.getElem?_toArray, List.getElem?_cons_zero, List.getElem?_cons_succ]; rfl) (fun K' hK => ?_) AllReady.nil
      refine step_append_bytes (by rfl) (.tmp 64) (.tmp 71) (by rfl) w3.drew.heap.size _ 0 [] (by rfl) own0 k0.ba k0.bb 0 k0.bn k0.bc _ (by rfl) HVx2.out Hbl.out (by omega) (by simp) ?_
      intro v4 w4 own4 gr4 nn4
      have b34 : Below w3.heap.size w3 w4 := ba3.trans (grown_below gr4 own0 (Nat.le_refl _) (by simp))
      replace own4 : w4.ownsRow w3.heap.size 5 1 v4 k0.bn (vals (fun i => (k0.X i : Int)) k0.bn) := by simpa using own4
      obtain ⟨g4, c4, rfl, hc4, hB4, hl4⟩ := own_some own4 (fun e => by have := nn4 e; simp at this)
      have HVb4 : Hid (View w4 a bb bo n (fun i => (Z i : Int))) := HVb.out.below b34
      refine hK _ _ ?_
      clear hK K' gr4 nn4 own0 HVx2
      refine wpAny_ready (rs := [12]) (by kernel_rfl) (by simp) ?_
      refine AllReady.cons (by simp only [List.getElem?_toArray, List.getElem?_cons_zero, List.getElem?_cons_succ]; rfl) (fun K' hK => ?_) AllReady.nil
      refine step_append_bytes (by rfl) (.tmp 72) (.tmp 73) (by rfl) w3.heap.size _ k0.bn _ (by rfl) own4 a bb bo n cc _ (by rfl) HVb4.out Hnil.out (by omega) b34.size ?_
      intro v5 w5 own5 gr5 nn5
      have b35 : Below w3.heap.size w3 w5 := b34.trans (grown_below gr5 own4 (Nat.le_refl _) b34.size)
      rw [vals_cat] at own5
      obtain ⟨g5, c5, rfl, hc5, hB5, hl5⟩ := own_some own5 (fun e => by have := nn5 e; cases this)
      have r5 : w5.rowIs T 46 9 f := H3.out.2.2.of_block (b35.block _ lt3)
      have c2 := r5.cell (i := 3 + wh * 2 + 1) (by omega)
      have d2 := r5.frozen (3 + wh * 2 + 1)
      have H5 : Hid (Below w3.heap.size w3 w5 ∧ View w5 (some ⟨g5, 0, none⟩) g5 0 (k0.bn + n) (fun i => ((cat k0.bn k0.X Z i : Nat) : Int)) ∧ w5.rowIs T 46 9 f) := ⟨b35, own_view own5 (fun i _ => by have := cat_lt (n := k0.bn) Hkx.out HZ.out i; omega) (by omega), r5⟩
      refine hK _ _ ?_
      clear hK K' gr5 nn5 own4 own5 b35 b34 r5 HVb4
      refine wpAny_take (i := 15) (v := ?_) (by simp only [List.getElem?_toArray, List.getElem?_cons_zero, List.getElem?_cons_succ]; rfl) (by kernel_rfl) (by kernel_rfl) (by kernel_rfl) (by exact fun _ _ _ h => h) (Or.inl ⟨by rfl, ?_⟩) ?_
      rotate_left
      · intro w'
        go_simp
        try with_reducible rfl
      refine wpAny_take (i := 16) (v := ?_) (by simp only [List.getElem?_toArray, List.getElem?_cons_zero, List.getElem?_cons_succ]; rfl) (by kernel_rfl) (by kernel_rfl) (by kernel_rfl) (by exact fun _ _ _ h => h) (Or.inl ⟨by rfl, ?_⟩) ?_
      rotate_left
      · intro w'
        go_simp
        try with_reducible rfl
      refine wpAny_ready (rs := [17]) (by kernel_rfl) (by simp) ?_
      refine AllReady.cons (by simp only [List.getElem?_toArray, List.getElem?_cons_zero, List.getElem?_cons_succ]; rfl) (fun K' hK => ?_) AllReady.nil
      go_simp
      refine hK _ _ ?_
      clear hK K' c2 d2
      refine wpAny_done (by kernel_rfl) ?_ _
      have s6 : Save T w5 (w5.setCell ⟨T, 3 + wh * 2 + 1, none⟩ (.slice (some ⟨g5, 0, none⟩) (k0.bn + n) c5)) := (Save.refl _ _).setCell _ _
      have r6 : (w5.setCell ⟨T, 3 + wh * 2 + 1, none⟩ (.slice (some ⟨g5, 0, none⟩) (k0.bn + n) c5)).rowIs T 46 9 (fun i => if i = 3 + wh * 2 + 1 then .slice (some ⟨g5, 0, none⟩) (k0.bn + n) c5 else f i) := H5.out.2.2.set _ _
      revert s6 r6
      generalize w5.setCell ⟨T, 3 + wh * 2 + 1, none⟩ (.slice (some ⟨g5, 0, none⟩) (k0.bn + n) c5) = w6
      intro s6 r6
      have z35 := H5.out.1.size
      have z56 := s6.size
      have w02 := HW.out.size
      have gw := HI.out.lt
      have lp := He.out.kd.lt
      have hb63 : ∀ k, k < w3.heap.size → k ≠ T → w6.heap[k]? = w3.heap[k]? := fun k hk hT => (s6.block k (by omega) hT).trans (H5.out.1.block k hk)
      have hb62 : ∀ k, k < w2.heap.size → k ≠ T → k ≠ k0.p → w6.heap[k]? = w2.heap[k]? := fun k hk hT hp => (hb63 k (by omega) hT).trans (H3.out.1.block k hk hp)
      have sT : 0 < k0.sn → k0.sb ≠ T := fun h0 => by have := (HT.out.off wh (by omega)).2.1; rw [← Hk0.out] at this; exact this h0
      have sp : 0 < k0.sn → k0.sb ≠ k0.p := fun h0 => by have := (HT.out.far wh wh (by omega) (by omega)).1; rw [← Hk0.out] at this; exact this h0
      have lp0 : B0 ≤ k0.p := by have := HT.out.lo wh (by omega); rw [← Hk0.out] at this; exact this
      have dis0 : ∀ j, j < c → j ≠ wh → Off k0.p (K j) ∧ OffD (K j).p k0 := fun j hj hne => by
        rw [Hk0.out]
        exact ⟨⟨fun e => HT.out.dis j wh hj (by omega) hne e, (HT.out.far wh j (by omega) hj).1, (HT.out.far wh j (by omega) hj).2⟩, HT.out.far j wh hj (by omega)⟩
      have e6 : Ent w6 ⟨k0.p, k0.sa, k0.sb, k0.sn, k0.sc, k0.S, some ⟨g5, 0, none⟩, g5, k0.bn + n, c5, cat k0.bn k0.X Z⟩ :=
        ⟨⟨H3.out.2.1.st.of_block (hb63 _ (by omega) pT), H3.out.2.1.bd, H3.out.2.1.bx⟩, He.out.vs.of_blk (fun h0 => hb62 _ (He.out.vs.lt h0) (sT h0) (sp h0)), H5.out.2.1.save s6 (fun _ => by omega), He.out.hS, He.out.sc, He.out.sl, hc5, (fun h => by cases h)⟩
      have t6 := HT.out.turn (x := k0.p) (L' := L + 400) (k' := ⟨k0.p, k0.sa, k0.sb, k0.sn, k0.sc, k0.S, some ⟨g5, 0, none⟩, g5, k0.bn + n, c5, cat k0.bn k0.X Z⟩) wh hw3 (by omega) (fun k hk hT hp => hb62 k hk hT hp) (fun j hj hne => (dis0 j hj hne).1) H2.out.2 r6
        (fun j hj h1 h2 h3 => by rw [if_neg (by omega)]) ⟨by dsimp only; rw [if_neg (by omega), Hf.out.1], by dsimp only; rw [if_neg (by omega), Hf.out.2.1], by dsimp only; rw [if_pos (by omega)]⟩ (by omega) e6 lp0 ⟨pT, sT, (fun _ => by show g5 ≠ T; omega)⟩
        (fun j hj hne => ⟨(dis0 j hj hne).1, (dis0 j hj hne).2.1, (fun h0 => by show g5 ≠ (K j).p; have := HT.out.ltp j hj; omega)⟩) ⟨sp, (fun h0 => by show g5 ≠ k0.p; omega)⟩ ⟨ln0.1, (by show k0.bn + n ≤ L + 400; omega)⟩ (by omega)
      have og6 : T ≠ g ∧ ∀ j, j < max c (wh + 1) → Off g (upk K wh ⟨k0.p, k0.sa, k0.sb, k0.sn, k0.sc, k0.S, some ⟨g5, 0, none⟩, g5, k0.bn + n, c5, cat k0.bn k0.X Z⟩ j) := ⟨HOg.out.1, fun j hj => by
        by_cases e : j = wh
        · rw [e, upk_at]
          have o := HOg.out.2 wh (by omega)
          rw [← Hk0.out] at o
          exact ⟨o.1, o.2.1, (fun _ => by show g5 ≠ g; omega)⟩
        · rw [upk_ne e]
          exact HOg.out.2 j (by omega)⟩
      have bw6 : Below B0 w w6 := HW.out.trans ⟨s6.os.trans (H5.out.1.os.trans H3.out.1.os), s6.tape.trans (H5.out.1.tape.trans H3.out.1.tape), s6.output.trans (H5.out.1.output.trans H3.out.1.output), by omega, fun k hk => hb62 k (by omega) (by omega) (by omega)⟩
      have H6 : Hid (Tb B0 w6 T (max c (wh + 1)) (L + 400) (upk K wh ⟨k0.p, k0.sa, k0.sb, k0.sn, k0.sc, k0.S, some ⟨g5, 0, none⟩, g5, k0.bn + n, c5, cat k0.bn k0.X Z⟩) ∧ InOk w6 g n cap Z ∧ View w6 a bb bo n (fun i => (Z i : Int)) ∧ Below B0 w w6 ∧ T ≠ g ∧ ∀ j, j < max c (wh + 1) → Off g (upk K wh ⟨k0.p, k0.sa, k0.sb, k0.sn, k0.sc, k0.S, some ⟨g5, 0, none⟩, g5, k0.bn + n, c5, cat k0.bn k0.X Z⟩ j)) :=
        ⟨t6, HI.out.of (hb62 g gw (by omega) gp), HV.out.of_blk (fun h0 => hb62 bb (HV.out.lt h0) (Hfar.out (by omega)).1 (bbp h0)), bw6, og6⟩
      clear s6 r6 z35 z56 hb63 hb62 sT sp lp0 dis0 e6 t6 og6 bw6 HT HI HV HVb HVx HW HOg H3 H5 HGr w02 gw lp H2 He Hf Hk0 cS cA cA2 cA3 ba3 lt3 z23 pT bbp bT bp gp Hbl Hkx
      go_wp2_with fail
      refine (aswas_yes w6 g cap a bb bo n cc Z H6.out.2.2.1 (H6.out.2.1.view HZ.out (by omega)) H6.out.2.1.cap).mono ?_
      rintro _ w8 ⟨rfl, q8, hw8⟩
      have b8 : Below w6.heap.size w6 w8 := by rw [hw8]; exact below_drewN (Below.refl _ _) q8
      have HT8 : Hid (Tb B0 w8 T (max c (wh + 1)) (L + 400) (upk K wh ⟨k0.p, k0.sa, k0.sb, k0.sn, k0.sc, k0.S, some ⟨g5, 0, none⟩, g5, k0.bn + n, c5, cat k0.bn k0.X Z⟩) ∧ InOk w8 g n cap Z ∧ Below B0 w w8) := ⟨H6.out.1.below b8, H6.out.2.1.below b8, H6.out.2.2.2.1.trans (b8.mono (by have := H6.out.2.2.2.1.size; omega))⟩
      clear hw8 b8
      go_wp2_with fail
      obtain ⟨fi, hri, hfi⟩ := HT8.out.2.1.row
      refine (over_any w8 g n cap cap fi Z hri (fun i hi => by rw [hfi i (by omega)]; unfold cat; rw [if_pos hi]) (fun i _ => HZ.out i) (by have := HT8.out.2.1.cap; omega) (by omega)).mono ?_
      rintro _ w9 ⟨rfl, hs9⟩
      have HF : Hid (Tb B0 w9 T (max c (wh + 1)) (L + 400) (upk K wh ⟨k0.p, k0.sa, k0.sb, k0.sn, k0.sc, k0.S, some ⟨g5, 0, none⟩, g5, k0.bn + n, c5, cat k0.bn k0.X Z⟩) ∧ Below B0 w w9) := ⟨HT8.out.1.keep g (fun k hk hkg => hs9.block k hk hkg) H6.out.2.2.2.2.1 H6.out.2.2.2.2.2, HT8.out.2.2.trans (hs9.below (by omega) (by have := HT8.out.2.2.size; omega))⟩
      clear hs9 hri hfi HT8
      go_wp2_with fail
      go_ret
      exact ⟨rfl, _, HF.out.1, HF.out.2⟩
    · go_simp
      refine hK _ _ ?_
      clear hK K'
      refine wpAny_ready (rs := [2]) (by kernel_rfl) (by simp) ?_
      refine AllReady.cons (by simp only [List.getElem?_toArray, List.getElem?_cons_zero, List.getElem?_cons_succ]; rfl) (fun K' hK => ?_) AllReady.nil
      go_simp
      refine hK _ _ ?_
      clear hK K'
      refine wpAny_ready (rs := [10]) (by kernel_rfl) (by simp) ?_
      refine AllReady.cons (by simp only [List.getElem?_toArray, List.getElem?_cons_zero, List.getElem?_cons_succ]; rfl) (fun K' hK => ?_) AllReady.nil
      refine step_append_bytes (by rfl) (.tmp 64) (.tmp 71) (by rfl) w3.drew.heap.size _ 0 [] (by rfl) own0 k0.ba k0.bb 0 k0.bn k0.bc _ (by rfl) HVx2.out Hbl.out (by omega) (by simp) ?_
      intro v4 w4 own4 gr4 nn4
      have b34 : Below w3.heap.size w3 w4 := ba3.trans (grown_below gr4 own0 (Nat.le_refl _) (by simp))
      replace own4 : w4.ownsRow w3.heap.size 5 1 v4 k0.bn (vals (fun i => (k0.X i : Int)) k0.bn) := by simpa using own4
      obtain ⟨g4, c4, rfl, hc4, hB4, hl4⟩ := own_some own4 (fun e => by have := nn4 e; simp at this)
      have HVb4 : Hid (View w4 a bb bo n (fun i => (Z i : Int))) := HVb.out.below b34
      refine hK _ _ ?_
      clear hK K' gr4 nn4 own0 HVx2
      refine wpAny_ready (rs := [12]) (by kernel_rfl) (by simp) ?_
      refine AllReady.cons (by simp only [List.getElem?_toArray, List.getElem?_cons_zero, List.getElem?_cons_succ]; rfl) (fun K' hK => ?_) AllReady.nil
      refine step_append_bytes (by rfl) (.tmp 72) (.tmp 73) (by rfl) w3.heap.size _ k0.bn _ (by rfl) own4 a bb bo n cc _ (by rfl) HVb4.out Hnil.out (by omega) b34.size ?_
      intro v5 w5 own5 gr5 nn5
      have b35 : Below w3.heap.size w3 w5 := b34.trans (grown_below gr5 own4 (Nat.le_refl _) b34.size)
      rw [vals_cat] at own5
      obtain ⟨g5, c5, rfl, hc5, hB5, hl5⟩ := own_some own5 (fun e => by have := nn5 e; cases this)
      have r5 : w5.rowIs T 46 9 f := H3.out.2.2.of_block (b35.block _ lt3)
      have c2 := r5.cell (i := 3 + wh * 2 + 1) (by omega)
      have d2 := r5.frozen (3 + wh * 2 + 1)
      have H5 : Hid (Below w3.heap.size w3 w5 ∧ View w5 (some ⟨g5, 0, none⟩) g5 0 (k0.bn + n) (fun i => ((cat k0.bn k0.X Z i : Nat) : Int)) ∧ w5.rowIs T 46 9 f) := ⟨b35, own_view own5 (fun i _ => by have := cat_lt (n := k0.bn) Hkx.out HZ.out i; omega) (by omega), r5⟩
      refine hK _ _ ?_
      clear hK K' gr5 nn5 own4 own5 b35 b34 r5 HVb4
      refine wpAny_take (i := 15) (v := ?_) (by simp only [List.getElem?_toArray, List.getElem?_cons_zero, List.getElem?_cons_succ]; rfl) (by kernel_rfl) (by kernel_rfl) (by kernel_rfl) (by exact fun _ _ _ h => h) (Or.inl ⟨by rfl, ?_⟩) ?_
      rotate_left
      · intro w'
        go_simp
        try with_reducible rfl
      refine wpAny_take (i := 16) (v := ?_) (by simp only [List.getElem?_toArray, List.getElem?_cons_zero, List.getElem?_cons_succ]; rfl) (by kernel_rfl) (by kernel_rfl) (by kernel_rfl) (by exact fun _ _ _ h => h) (Or.inl ⟨by rfl, ?_⟩) ?_
      rotate_left
      · intro w'
        go_simp
        try with_reducible rfl
      refine wpAny_ready (rs := [17]) (by kernel_rfl) (by simp) ?_
      refine AllReady.cons (by simp only [List.getElem?_toArray, List.getElem?_cons_zero, List.getElem?_cons_succ]; rfl) (fun K' hK => ?_) AllReady.nil
      go_simp
      refine hK _ _ ?_
      clear hK K' c2 d2
      refine wpAny_done (by kernel_rfl) ?_ _
      have s6 : Save T w5 (w5.setCell ⟨T, 3 + wh * 2 + 1, none⟩ (.slice (some ⟨g5, 0, none⟩) (k0.bn + n) c5)) := (Save.refl _ _).setCell _ _
      have r6 : (w5.setCell ⟨T, 3 + wh * 2 + 1, none⟩ (.slice (some ⟨g5, 0, none⟩) (k0.bn + n) c5)).rowIs T 46 9 (fun i => if i = 3 + wh * 2 + 1 then .slice (some ⟨g5, 0, none⟩) (k0.bn + n) c5 else f i) := H5.out.2.2.set _ _
      revert s6 r6
      generalize w5.setCell ⟨T, 3 + wh * 2 + 1, none⟩ (.slice (some ⟨g5, 0, none⟩) (k0.bn + n) c5) = w6
      intro s6 r6
      have z35 := H5.out.1.size
      have z56 := s6.size
      have w02 := HW.out.size
      have gw := HI.out.lt
      have lp := He.out.kd.lt
      have hb63 : ∀ k, k < w3.heap.size → k ≠ T → w6.heap[k]? = w3.heap[k]? := fun k hk hT => (s6.block k (by omega) hT).trans (H5.out.1.block k hk)
      have hb62 : ∀ k, k < w2.heap.size → k ≠ T → k ≠ k0.p → w6.heap[k]? = w2.heap[k]? := fun k hk hT hp => (hb63 k (by omega) hT).trans (H3.out.1.block k hk hp)
      have sT : 0 < k0.sn → k0.sb ≠ T := fun h0 => by have := (HT.out.off wh (by omega)).2.1; rw [← Hk0.out] at this; exact this h0
      have sp : 0 < k0.sn → k0.sb ≠ k0.p := fun h0 => by have := (HT.out.far wh wh (by omega) (by omega)).1; rw [← Hk0.out] at this; exact this h0
      have lp0 : B0 ≤ k0.p := by have := HT.out.lo wh (by omega); rw [← Hk0.out] at this; exact this
      have dis0 : ∀ j, j < c → j ≠ wh → Off k0.p (K j) ∧ OffD (K j).p k0 := fun j hj hne => by
        rw [Hk0.out]
        exact ⟨⟨fun e => HT.out.dis j wh hj (by omega) hne e, (HT.out.far wh j (by omega) hj).1, (HT.out.far wh j (by omega) hj).2⟩, HT.out.far j wh hj (by omega)⟩
      have e6 : Ent w6 ⟨k0.p, k0.sa, k0.sb, k0.sn, k0.sc, k0.S, some ⟨g5, 0, none⟩, g5, k0.bn + n, c5, cat k0.bn k0.X Z⟩ :=
        ⟨⟨H3.out.2.1.st.of_block (hb63 _ (by omega) pT), H3.out.2.1.bd, H3.out.2.1.bx⟩, He.out.vs.of_blk (fun h0 => hb62 _ (He.out.vs.lt h0) (sT h0) (sp h0)), H5.out.2.1.save s6 (fun _ => by omega), He.out.hS, He.out.sc, He.out.sl, hc5, (fun h => by cases h)⟩
      have t6 := HT.out.turn (x := k0.p) (L' := L + 400) (k' := ⟨k0.p, k0.sa, k0.sb, k0.sn, k0.sc, k0.S, some ⟨g5, 0, none⟩, g5, k0.bn + n, c5, cat k0.bn k0.X Z⟩) wh hw3 (by omega) (fun k hk hT hp => hb62 k hk hT hp) (fun j hj hne => (dis0 j hj hne).1) H2.out.2 r6
        (fun j hj h1 h2 h3 => by rw [if_neg (by omega)]) ⟨by dsimp only; rw [if_neg (by omega), Hf.out.1], by dsimp only; rw [if_neg (by omega), Hf.out.2.1], by dsimp only; rw [if_pos (by omega)]⟩ (by omega) e6 lp0 ⟨pT, sT, (fun _ => by show g5 ≠ T; omega)⟩
        (fun j hj hne => ⟨(dis0 j hj hne).1, (dis0 j hj hne).2.1, (fun h0 => by show g5 ≠ (K j).p; have := HT.out.ltp j hj; omega)⟩) ⟨sp, (fun h0 => by show g5 ≠ k0.p; omega)⟩ ⟨ln0.1, (by show k0.bn + n ≤ L + 400; omega)⟩ (by omega)
      have og6 : T ≠ g ∧ ∀ j, j < max c (wh + 1) → Off g (upk K wh ⟨k0.p, k0.sa, k0.sb, k0.sn, k0.sc, k0.S, some ⟨g5, 0, none⟩, g5, k0.bn + n, c5, cat k0.bn k0.X Z⟩ j) := ⟨HOg.out.1, fun j hj => by
        by_cases e : j = wh
        · rw [e, upk_at]
          have o := HOg.out.2 wh (by omega)
          rw [← Hk0.out] at o
          exact ⟨o.1, o.2.1, (fun _ => by show g5 ≠ g; omega)⟩
        · rw [upk_ne e]
          exact HOg.out.2 j (by omega)⟩
      have bw6 : Below B0 w w6 := HW.out.trans ⟨s6.os.trans (H5.out.1.os.trans H3.out.1.os), s6.tape.trans (H5.out.1.tape.trans H3.out.1.tape), s6.output.trans (H5.out.1.output.trans H3.out.1.output), by omega, fun k hk => hb62 k (by omega) (by omega) (by omega)⟩
      have H6 : Hid (Tb B0 w6 T (max c (wh + 1)) (L + 400) (upk K wh ⟨k0.p, k0.sa, k0.sb, k0.sn, k0.sc, k0.S, some ⟨g5, 0, none⟩, g5, k0.bn + n, c5, cat k0.bn k0.X Z⟩) ∧ InOk w6 g n cap Z ∧ View w6 a bb bo n (fun i => (Z i : Int)) ∧ Below B0 w w6 ∧ T ≠ g ∧ ∀ j, j < max c (wh + 1) → Off g (upk K wh ⟨k0.p, k0.sa, k0.sb, k0.sn, k0.sc, k0.S, some ⟨g5, 0, none⟩, g5, k0.bn + n, c5, cat k0.bn k0.X Z⟩ j)) :=
        ⟨t6, HI.out.of (hb62 g gw (by omega) gp), HV.out.of_blk (fun h0 => hb62 bb (HV.out.lt h0) (Hfar.out (by omega)).1 (bbp h0)), bw6, og6⟩
      clear s6 r6 z35 z56 hb63 hb62 sT sp lp0 dis0 e6 t6 og6 bw6 HT HI HV HVb HVx HW HOg H3 H5 HGr w02 gw lp H2 He Hf Hk0 cS cA cA2 cA3 ba3 lt3 z23 pT bbp bT bp gp Hbl Hkx
      go_wp2_with fail
      refine (aswas_yes w6 g cap a bb bo n cc Z H6.out.2.2.1 (H6.out.2.1.view HZ.out (by omega)) H6.out.2.1.cap).mono ?_
      rintro _ w8 ⟨rfl, q8, hw8⟩
      have b8 : Below w6.heap.size w6 w8 := by rw [hw8]; exact below_drewN (Below.refl _ _) q8
      have HT8 : Hid (Tb B0 w8 T (max c (wh + 1)) (L + 400) (upk K wh ⟨k0.p, k0.sa, k0.sb, k0.sn, k0.sc, k0.S, some ⟨g5, 0, none⟩, g5, k0.bn + n, c5, cat k0.bn k0.X Z⟩) ∧ InOk w8 g n cap Z ∧ Below B0 w w8) := ⟨H6.out.1.below b8, H6.out.2.1.below b8, H6.out.2.2.2.1.trans (b8.mono (by have := H6.out.2.2.2.1.size; omega))⟩
      clear hw8 b8
      go_wp2_with fail
      obtain ⟨fi, hri, hfi⟩ := HT8.out.2.1.row
      refine (over_any w8 g n cap cap fi Z hri (fun i hi => by rw [hfi i (by omega)]; unfold cat; rw [if_pos hi]) (fun i _ => HZ.out i) (by have := HT8.out.2.1.cap; omega) (by omega)).mono ?_
      rintro _ w9 ⟨rfl, hs9⟩
      have HF : Hid (Tb B0 w9 T (max c (wh + 1)) (L + 400) (upk K wh ⟨k0.p, k0.sa, k0.sb, k0.sn, k0.sc, k0.S, some ⟨g5, 0, none⟩, g5, k0.bn + n, c5, cat k0.bn k0.X Z⟩) ∧ Below B0 w w9) := ⟨HT8.out.1.keep g (fun k hk hkg => hs9.block k hk hkg) H6.out.2.2.2.2.1 H6.out.2.2.2.2.2, HT8.out.2.2.trans (hs9.below (by omega) (by have := HT8.out.2.2.size; omega))⟩
      clear hs9 hri hfi HT8
      go_wp2_with fail
      go_ret
      exact ⟨rfl, _, HF.out.1, HF.out.2⟩
  · have sl := slice_upto a n cc 400 (by omega)
    have v1 : View w a bb bo 400 (fun i => (Z i : Int)) := ⟨fun h0 => hv.at_ (by omega), fun i hi => hv.cell i (by omega), fun i hi => hv.bd i (by omega), by omega⟩
    have b1 : Below w.heap.size w (w.alloc (.cells #[.int .i64 2, .int .i64 which, .slice a n cc] 49)) := (Below.refl _ _).alloc (Nat.le_refl _) _
    have k1 : (w.alloc (.cells #[.int .i64 2, .int .i64 which, .slice a n cc] 49)).cell? ⟨w.heap.size, 0, none⟩ = some (.int .i64 2) := by rw [cell_of_row _ _ _ _ 49 _ (heap_alloc_new w _)]; rfl
    have cr := roomy_any (w.alloc (.cells #[.int .i64 2, .int .i64 which, .slice a n cc] 49)) a bb bo 400 cc Z (v1.below b1) hnil (by omega)
    have HH : Hid (Tb B0 w T c L K ∧ View w a bb bo 400 (fun i => (Z i : Int)) ∧ Gr w ∧ Below w.heap.size w (w.alloc (.cells #[.int .i64 2, .int .i64 which, .slice a n cc] 49)) ∧ (w.alloc (.cells #[.int .i64 2, .int .i64 which, .slice a n cc] 49)).cell? ⟨w.heap.size, 0, none⟩ = some (.int .i64 2)) := ⟨h, v1, hG, b1, k1⟩
    have Hfar : Hid (0 < n → bb ≠ T ∧ ∀ j, j < c → bb ≠ (K j).p) := hfar
    have HZ : Hid (∀ i, Z i < 256) := hZ
    have Hnil : Hid (a = none → cc = 0) := hnil
    clear h hv hG v1 b1 k1 hfar hZ hnil
    go_enter Tryd.func15, Tryd.ntmps15
    go_wp2_with fail
    refine cr.mono ?_
    rintro _ w2 ⟨g, cap, rfl, own2, hcap2, hg2, hgl2, hb2⟩
    rw [World.size_alloc] at hg2
    have b02 : Below w.heap.size w w2 := ch HH.out.2.2.2.1 hb2
    have ck : w2.cell? ⟨w.heap.size, 0, none⟩ = some (.int .i64 2) := (hb2.cell (p := ⟨w.heap.size, 0, none⟩) (by show w.heap.size < _; simp)).trans HH.out.2.2.2.2
    have HT : Hid (Tb B0 w2 T c L K) := HH.out.1.below b02
    have HI : Hid (InOk w2 g 400 cap Z) := in_of_own own2 hcap2
    have HV : Hid (View w2 a bb bo 400 (fun i => (Z i : Int))) := HH.out.2.1.below b02
    have HW : Hid (Below B0 w w2) := b02.mono (by omega)
    have HGr : Hid (Gr w2) := HH.out.2.2.1.below b02
    have HOg : Hid (T ≠ g ∧ ∀ j, j < c → Off g (K j)) := ⟨by omega, HH.out.1.off_new g (by omega)⟩
    have hbb : 0 < 400 → bb < w.heap.size := fun h0 => HH.out.2.1.lt h0
    clear sl
    clear own2 hb2 b02 cr HH
    obtain ⟨k0, hk0⟩ : ∃ k, k = K wh := ⟨_, rfl⟩
    obtain ⟨f, hr2, hf2⟩ := HT.out.row
    obtain ⟨f1, f2, f3⟩ := hf2 wh (by omega)
    rw [← hk0] at f1 f2 f3
    have e0 : Ent w2 k0 := by rw [hk0]; exact HT.out.ent wh (by omega)
    have ln0 : k0.sn ≤ 400 ∧ k0.bn ≤ L := by rw [hk0]; exact HT.out.len wh (by omega)
    have Hk0 : Hid (k0 = K wh) := hk0
    have H2 : Hid (w2.rowIs T 46 9 f ∧ ∀ j, j < c → Cells f j (K j)) := ⟨hr2, hf2⟩
    have He : Hid (Ent w2 k0) := e0
    have Hf : Hid (f wh = .pointer (some ⟨k0.p, 0, none⟩) ∧ f (3 + 2 * wh) = .slice k0.sa k0.sn k0.sc ∧ f (4 + 2 * wh) = .slice k0.ba k0.bn k0.bc) := ⟨f1, f2, f3⟩
    have ct : w2.cell? ⟨T, wh, none⟩ = some (.pointer (some ⟨k0.p, 0, none⟩)) := by rw [hr2.cell (i := wh) (by omega), f1]
    have cs : w2.cell? ⟨T, 3 + wh * 2, none⟩ = some (.slice k0.sa k0.sn k0.sc) := by rw [hr2.cell (i := 3 + wh * 2) (by omega), show 3 + wh * 2 = 3 + 2 * wh by omega, f2]
    have cb : w2.cell? ⟨T, 3 + wh * 2 + 1, none⟩ = some (.slice k0.ba k0.bn k0.bc) := by rw [hr2.cell (i := 3 + wh * 2 + 1) (by omega), show 3 + wh * 2 + 1 = 4 + 2 * wh by omega, f3]
    clear cs cb
    clear hk0 hr2 hf2 f1 f2 f3 e0
    go_wp2_with fail
    clear ct ck
    have gp : g ≠ k0.p := by have := (HOg.out.2 wh (by omega)).1; rw [← Hk0.out] at this; omega
    refine (mwrite_any w2 k0.p _ _ _ He.out.kd (some ⟨g, 0, none⟩) g 0 400 cap Z (HI.out.head HZ.out (by omega)) HZ.out (fun _ => gp) (by have := HI.out.cap; omega) HGr.out.g (by have := HT.out.lo wh (by omega); rw [← Hk0.out] at this; omega) (by omega)).mono ?_
    rintro _ w3 ⟨rfl, hs3, kd3⟩
    have pT : k0.p ≠ T := by have := (HT.out.off wh (by omega)).1; rw [← Hk0.out] at this; exact this
    have bbp : 0 < 400 → bb ≠ k0.p := fun h0 => by rw [Hk0.out]; exact (Hfar.out (by omega)).2 wh (by omega)
    have bT : 0 < k0.bn → k0.bb ≠ T := fun h0 => by have := (HT.out.off wh (by omega)).2.2; rw [← Hk0.out] at this; exact this h0
    have bp : 0 < k0.bn → k0.bb ≠ k0.p := fun h0 => by have := (HT.out.far wh wh (by omega) (by omega)).2; rw [← Hk0.out] at this; exact this h0
    have z23 := hs3.size
    have r3 : w3.rowIs T 46 9 f := hs3.row H2.out.1 (fun e => pT e.symm)
    have cb3 : w3.cell? ⟨T, 3 + wh * 2 + 1, none⟩ = some (.slice k0.ba k0.bn k0.bc) := by rw [r3.cell (i := 3 + wh * 2 + 1) (by omega), show 3 + wh * 2 + 1 = 4 + 2 * wh by omega, Hf.out.2.2]
    have bd3 : Below w3.heap.size w3 w3.drew := (Below.refl _ _).drew
    have own0 := World.ownsRow_lit (base := w3.drew.heap.size) (e := 5) (size := 1) w3.drew #[] 0 (Nat.le_refl _) (by decide) rfl
    have ba3 : Below w3.heap.size w3 (w3.drew.alloc (.cells #[] 5)) := bd3.alloc (Nat.le_refl _) _
    have HVb : Hid (View w3 a bb bo 400 (fun i => (Z i : Int))) := HV.out.save hs3 bbp
    have HVx : Hid (View w3 k0.ba k0.bb 0 k0.bn (fun i => (k0.X i : Int))) := He.out.vb.save hs3 bp
    have HVx2 : Hid (View (w3.drew.alloc (.cells #[] 5)) k0.ba k0.bb 0 k0.bn (fun i => (k0.X i : Int))) := HVx.out.below ba3
    have lt3 : T < w3.heap.size := r3.lt
    have H3 : Hid (Save k0.p w2 w3 ∧ Kd w3 k0.p (blk k0.sn k0.S) (k0.bn + 400) (cat k0.bn k0.X Z) ∧ w3.rowIs T 46 9 f) := ⟨hs3, kd3, r3⟩
    have cS : w3.drew.cell? ⟨T, 3 + wh * 2 + 1, none⟩ = some (.slice k0.ba k0.bn k0.bc) := (bd3.cell (p := ⟨T, 3 + wh * 2 + 1, none⟩) lt3).trans cb3
    have cA : (w3.drew.alloc (.cells #[] 5)).cell? ⟨T, 3 + wh * 2 + 1, none⟩ = some (.slice k0.ba k0.bn k0.bc) := (ba3.cell (p := ⟨T, 3 + wh * 2 + 1, none⟩) lt3).trans cb3
    have cA2 : (w3.alloc (.cells #[] 5)).cell? ⟨T, 3 + wh * 2 + 1, none⟩ = some (.slice k0.ba k0.bn k0.bc) := cA
    have cA3 : w3.cell? ⟨T, 3 + wh * 2 + 1, none⟩ = some (.slice k0.ba k0.bn k0.bc) := cS
    have Hbl : Hid (k0.ba = none → k0.bc = 0) := He.out.bl
    have Hkx : Hid (∀ i, k0.X i < 256) := He.out.kd.bx
    clear hs3 kd3 bd3 r3 cb3
    go_wp2_with fail
    refine wp_region_any (by kernel_rfl) ?_
    change wpAny _ _ _ _ 18 _ _ (World.drew _)
    refine wpAny_take (i := 0) (v := ?_) (by simp only [List.getElem?_toArray, List.getElem?_cons_zero]; rfl) (by kernel_rfl) (by kernel_rfl) (by kernel_rfl) (by exact fun _ _ _ h => h) (Or.inl ⟨by rfl, ?_⟩) ?_
    rotate_left
    · intro w'
      go_simp
      try with_reducible rfl
    refine wpAny_take (i := 1) (v := ?_) (by simp only [List.getElem?_toArray, List.getElem?_cons_zero, List.getElem?_cons_succ]; rfl) (by kernel_rfl) (by kernel_rfl) (by kernel_rfl) (by exact fun _ _ _ h => h) (Or.inl ⟨by rfl, ?_⟩) ?_
    rotate_left
    · intro w'
      go_simp
      try with_reducible rfl
    refine wpAny_take (i := 3) (v := ?_) (by simp only [List.getElem?_toArray, List.getElem?_cons_zero, List.getElem?_cons_succ]; rfl) (by kernel_rfl) (by kernel_rfl) (by kernel_rfl) (by exact fun _ _ _ h => h) (Or.inl ⟨by rfl, ?_⟩) ?_
    rotate_left
    · intro w'
      go_simp
      try with_reducible rfl
    refine wpAny_take (i := 4) (v := ?_) (by simp only [List.getElem?_toArray, List.getElem?_cons_zero, List.getElem?_cons_succ]; rfl) (by kernel_rfl) (by kernel_rfl) (by kernel_rfl) (by exact fun _ _ _ h => h) (Or.inl ⟨by rfl, ?_⟩) ?_
    rotate_left
    · intro w'
      go_simp
      try with_reducible rfl
    refine wpAny_take (i := 5) (v := ?_) (by simp only [List.getElem?_toArray, List.getElem?_cons_zero, List.getElem?_cons_succ]; rfl) (by kernel_rfl) (by kernel_rfl) (by kernel_rfl) (by exact fun _ _ _ h => h) (Or.inl ⟨by rfl, ?_⟩) ?_
    rotate_left
    · intro w'
      go_simp
      try with_reducible rfl
    refine wpAny_take (i := 6) (v := ?_) (by simp only [List.getElem?_toArray, List.getElem?_cons_zero, List.getElem?_cons_succ]; rfl) (by kernel_rfl) (by kernel_rfl) (by kernel_rfl) (by exact fun _ _ _ h => h) (Or.inl ⟨by rfl, ?_⟩) ?_
    rotate_left
    · intro w'
      go_simp
      try with_reducible rfl
    refine wpAny_take (i := 7) (v := ?_) (by simp only [List.getElem?_toArray, List.getElem?_cons_zero, List.getElem?_cons_succ]; rfl) (by kernel_rfl) (by kernel_rfl) (by kernel_rfl) (by exact fun _ _ _ h => h) (Or.inl ⟨by rfl, ?_⟩) ?_
    rotate_left
    · intro w'
      go_simp
      try with_reducible rfl
    refine wpAny_take (i := 8) (v := ?_) (by simp only [List.getElem?_toArray, List.getElem?_cons_zero, List.getElem?_cons_succ]; rfl) (by kernel_rfl) (by kernel_rfl) (by kernel_rfl) (by exact fun _ _ _ h => h) (Or.inl ⟨by rfl, ?_⟩) ?_
    rotate_left
    · intro w'
      go_simp
      try with_reducible rfl
    refine wpAny_take (i := 11) (v := ?_) (by simp only [List.getElem?_toArray, List.getElem?_cons_zero, List.getElem?_cons_succ]; rfl) (by kernel_rfl) (by kernel_rfl) (by kernel_rfl) (by exact fun _ _ _ h => h) (Or.inl ⟨by rfl, ?_⟩) ?_
    rotate_left
    · intro w'
      go_simp
      try with_reducible rfl
    refine wpAny_take (i := 13) (v := ?_) (by simp only [List.getElem?_toArray, List.getElem?_cons_zero, List.getElem?_cons_succ]; rfl) (by kernel_rfl) (by kernel_rfl) (by kernel_rfl) (by exact fun _ _ _ h => h) (Or.inl ⟨by rfl, ?_⟩) ?_
    rotate_left
    · intro w'
      go_simp
      try with_reducible rfl
    refine wpAny_take (i := 14) (v := ?_) (by simp only [List.getElem?_toArray, List.getElem?_cons_zero, List.getElem?_cons_succ]; rfl) (by kernel_rfl) (by kernel_rfl) (by kernel_rfl) (by exact fun _ _ _ h => h) (Or.inl ⟨by rfl, ?_⟩) ?_
    rotate_left
    · intro w'
      go_simp
      try with_reducible rfl
    refine wpAny_ready (rs := [2, 9]) (by kernel_rfl) (by simp) ?_
    refine AllReady.cons (by simp only [List.getElem?_toArray, List.getElem?_cons_zero, List.getElem?_cons_succ]; rfl) (fun K' hK => ?_) (AllReady.cons (by simp only [List.getElem?_toArray, List.getElem?_cons_zero, List.getElem?_cons_succ]; rfl) (fun K' hK => ?_) AllReady.nil)
    · go_simp
      refine hK _ _ ?_
      clear hK K'
      refine wpAny_ready (rs := [9]) (by kernel_rfl) (by simp) ?_
      refine AllReady.cons (by simp only [List.getElem?_toArray, List.getElem?_cons_zero, List.getElem?_cons_succ]; rfl) (fun K' hK => ?_) AllReady.nil
      go_simp
      refine hK _ _ ?_
      clear hK K'
      refine wpAny_ready (rs := [10]) (by kernel_rfl) (by simp) ?_
      refine AllReady.cons (by simp only [List.getElem?_toArray, List.getElem?_cons_zero, List.getElem?_cons_succ]; rfl) (fun K' hK => ?_) AllReady.nil
      refine step_append_bytes (by rfl) (.tmp 64) (.tmp 71) (by rfl) w3.drew.heap.size _ 0 [] (by rfl) own0 k0.ba k0.bb 0 k0.bn k0.bc _ (by rfl) HVx2.out Hbl.out (by omega) (by simp) ?_
      intro v4 w4 own4 gr4 nn4
      have b34 : Below w3.heap.size w3 w4 := ba3.trans (grown_below gr4 own0 (Nat.le_refl _) (by simp))
      replace own4 : w4.ownsRow w3.heap.size 5 1 v4 k0.bn (vals (fun i => (k0.X i : Int)) k0.bn) := by simpa using own4
      obtain ⟨g4, c4, rfl, hc4, hB4, hl4⟩ := own_some own4 (fun e => by have := nn4 e; simp at this)
      have HVb4 : Hid (View w4 a bb bo 400 (fun i => (Z i : Int))) := HVb.out.below b34
      refine hK _ _ ?_
      clear hK K' gr4 nn4 own0 HVx2
      refine wpAny_ready (rs := [12]) (by kernel_rfl) (by simp) ?_
      refine AllReady.cons (by simp only [List.getElem?_toArray, List.getElem?_cons_zero, List.getElem?_cons_succ]; rfl) (fun K' hK => ?_) AllReady.nil
      refine step_append_bytes (by rfl) (.tmp 72) (.tmp 73) (by rfl) w3.heap.size _ k0.bn _ (by rfl) own4 a bb bo 400 cc _ (by rfl) HVb4.out Hnil.out (by omega) b34.size ?_
      intro v5 w5 own5 gr5 nn5
      have b35 : Below w3.heap.size w3 w5 := b34.trans (grown_below gr5 own4 (Nat.le_refl _) b34.size)
      rw [vals_cat] at own5
      obtain ⟨g5, c5, rfl, hc5, hB5, hl5⟩ := own_some own5 (fun e => by have := nn5 e; cases this)
      have r5 : w5.rowIs T 46 9 f := H3.out.2.2.of_block (b35.block _ lt3)
      have c2 := r5.cell (i := 3 + wh * 2 + 1) (by omega)
      have d2 := r5.frozen (3 + wh * 2 + 1)
      have H5 : Hid (Below w3.heap.size w3 w5 ∧ View w5 (some ⟨g5, 0, none⟩) g5 0 (k0.bn + 400) (fun i => ((cat k0.bn k0.X Z i : Nat) : Int)) ∧ w5.rowIs T 46 9 f) := ⟨b35, own_view own5 (fun i _ => by have := cat_lt (n := k0.bn) Hkx.out HZ.out i; omega) (by omega), r5⟩
      refine hK _ _ ?_
      clear hK K' gr5 nn5 own4 own5 b35 b34 r5 HVb4
      refine wpAny_take (i := 15) (v := ?_) (by simp only [List.getElem?_toArray, List.getElem?_cons_zero, List.getElem?_cons_succ]; rfl) (by kernel_rfl) (by kernel_rfl) (by kernel_rfl) (by exact fun _ _ _ h => h) (Or.inl ⟨by rfl, ?_⟩) ?_
      rotate_left
      · intro w'
        go_simp
        try with_reducible rfl
      refine wpAny_take (i := 16) (v := ?_) (by simp only [List.getElem?_toArray, List.getElem?_cons_zero, List.getElem?_cons_succ]; rfl) (by kernel_rfl) (by kernel_rfl) (by kernel_rfl) (by exact fun _ _ _ h => h) (Or.inl ⟨by rfl, ?_⟩) ?_
      rotate_left
      · intro w'
        go_simp
        try with_reducible rfl
      refine wpAny_ready (rs := [17]) (by kernel_rfl) (by simp) ?_
      refine AllReady.cons (by simp only [List.getElem?_toArray, List.getElem?_cons_zero, List.getElem?_cons_succ]; rfl) (fun K' hK => ?_) AllReady.nil
      go_simp
      refine hK _ _ ?_
      clear hK K' c2 d2
      refine wpAny_done (by kernel_rfl) ?_ _
      have s6 : Save T w5 (w5.setCell ⟨T, 3 + wh * 2 + 1, none⟩ (.slice (some ⟨g5, 0, none⟩) (k0.bn + 400) c5)) := (Save.refl _ _).setCell _ _
      have r6 : (w5.setCell ⟨T, 3 + wh * 2 + 1, none⟩ (.slice (some ⟨g5, 0, none⟩) (k0.bn + 400) c5)).rowIs T 46 9 (fun i => if i = 3 + wh * 2 + 1 then .slice (some ⟨g5, 0, none⟩) (k0.bn + 400) c5 else f i) := H5.out.2.2.set _ _
      revert s6 r6
      generalize w5.setCell ⟨T, 3 + wh * 2 + 1, none⟩ (.slice (some ⟨g5, 0, none⟩) (k0.bn + 400) c5) = w6
      intro s6 r6
      have z35 := H5.out.1.size
      have z56 := s6.size
      have w02 := HW.out.size
      have gw := HI.out.lt
      have lp := He.out.kd.lt
      have hb63 : ∀ k, k < w3.heap.size → k ≠ T → w6.heap[k]? = w3.heap[k]? := fun k hk hT => (s6.block k (by omega) hT).trans (H5.out.1.block k hk)
      have hb62 : ∀ k, k < w2.heap.size → k ≠ T → k ≠ k0.p → w6.heap[k]? = w2.heap[k]? := fun k hk hT hp => (hb63 k (by omega) hT).trans (H3.out.1.block k hk hp)
      have sT : 0 < k0.sn → k0.sb ≠ T := fun h0 => by have := (HT.out.off wh (by omega)).2.1; rw [← Hk0.out] at this; exact this h0
      have sp : 0 < k0.sn → k0.sb ≠ k0.p := fun h0 => by have := (HT.out.far wh wh (by omega) (by omega)).1; rw [← Hk0.out] at this; exact this h0
      have lp0 : B0 ≤ k0.p := by have := HT.out.lo wh (by omega); rw [← Hk0.out] at this; exact this
      have dis0 : ∀ j, j < c → j ≠ wh → Off k0.p (K j) ∧ OffD (K j).p k0 := fun j hj hne => by
        rw [Hk0.out]
        exact ⟨⟨fun e => HT.out.dis j wh hj (by omega) hne e, (HT.out.far wh j (by omega) hj).1, (HT.out.far wh j (by omega) hj).2⟩, HT.out.far j wh hj (by omega)⟩
      have e6 : Ent w6 ⟨k0.p, k0.sa, k0.sb, k0.sn, k0.sc, k0.S, some ⟨g5, 0, none⟩, g5, k0.bn + 400, c5, cat k0.bn k0.X Z⟩ :=
        ⟨⟨H3.out.2.1.st.of_block (hb63 _ (by omega) pT), H3.out.2.1.bd, H3.out.2.1.bx⟩, He.out.vs.of_blk (fun h0 => hb62 _ (He.out.vs.lt h0) (sT h0) (sp h0)), H5.out.2.1.save s6 (fun _ => by omega), He.out.hS, He.out.sc, He.out.sl, hc5, (fun h => by cases h)⟩
      have t6 := HT.out.turn (x := k0.p) (L' := L + 400) (k' := ⟨k0.p, k0.sa, k0.sb, k0.sn, k0.sc, k0.S, some ⟨g5, 0, none⟩, g5, k0.bn + 400, c5, cat k0.bn k0.X Z⟩) wh hw3 (by omega) (fun k hk hT hp => hb62 k hk hT hp) (fun j hj hne => (dis0 j hj hne).1) H2.out.2 r6
        (fun j hj h1 h2 h3 => by rw [if_neg (by omega)]) ⟨by dsimp only; rw [if_neg (by omega), Hf.out.1], by dsimp only; rw [if_neg (by omega), Hf.out.2.1], by dsimp only; rw [if_pos (by omega)]⟩ (by omega) e6 lp0 ⟨pT, sT, (fun _ => by show g5 ≠ T; omega)⟩
        (fun j hj hne => ⟨(dis0 j hj hne).1, (dis0 j hj hne).2.1, (fun h0 => by show g5 ≠ (K j).p; have := HT.out.ltp j hj; omega)⟩) ⟨sp, (fun h0 => by show g5 ≠ k0.p; omega)⟩ ⟨ln0.1, (by show k0.bn + 400 ≤ L + 400; omega)⟩ (by omega)
      have og6 : T ≠ g ∧ ∀ j, j < max c (wh + 1) → Off g (upk K wh ⟨k0.p, k0.sa, k0.sb, k0.sn, k0.sc, k0.S, some ⟨g5, 0, none⟩, g5, k0.bn + 400, c5, cat k0.bn k0.X Z⟩ j) := ⟨HOg.out.1, fun j hj => by
        by_cases e : j = wh
        · rw [e, upk_at]
          have o := HOg.out.2 wh (by omega)
          rw [← Hk0.out] at o
          exact ⟨o.1, o.2.1, (fun _ => by show g5 ≠ g; omega)⟩
        · rw [upk_ne e]
          exact HOg.out.2 j (by omega)⟩
      have bw6 : Below B0 w w6 := HW.out.trans ⟨s6.os.trans (H5.out.1.os.trans H3.out.1.os), s6.tape.trans (H5.out.1.tape.trans H3.out.1.tape), s6.output.trans (H5.out.1.output.trans H3.out.1.output), by omega, fun k hk => hb62 k (by omega) (by omega) (by omega)⟩
      have H6 : Hid (Tb B0 w6 T (max c (wh + 1)) (L + 400) (upk K wh ⟨k0.p, k0.sa, k0.sb, k0.sn, k0.sc, k0.S, some ⟨g5, 0, none⟩, g5, k0.bn + 400, c5, cat k0.bn k0.X Z⟩) ∧ InOk w6 g 400 cap Z ∧ View w6 a bb bo 400 (fun i => (Z i : Int)) ∧ Below B0 w w6 ∧ T ≠ g ∧ ∀ j, j < max c (wh + 1) → Off g (upk K wh ⟨k0.p, k0.sa, k0.sb, k0.sn, k0.sc, k0.S, some ⟨g5, 0, none⟩, g5, k0.bn + 400, c5, cat k0.bn k0.X Z⟩ j)) :=
        ⟨t6, HI.out.of (hb62 g gw (by omega) gp), HV.out.of_blk (fun h0 => hb62 bb (HV.out.lt h0) (Hfar.out (by omega)).1 (bbp h0)), bw6, og6⟩
      clear s6 r6 z35 z56 hb63 hb62 sT sp lp0 dis0 e6 t6 og6 bw6 HT HI HV HVb HVx HW HOg H3 H5 HGr w02 gw lp H2 He Hf Hk0 cS cA cA2 cA3 ba3 lt3 z23 pT bbp bT bp gp Hbl Hkx
      go_wp2_with fail
      refine (aswas_yes w6 g cap a bb bo 400 cc Z H6.out.2.2.1 (H6.out.2.1.view HZ.out (by omega)) H6.out.2.1.cap).mono ?_
      rintro _ w8 ⟨rfl, q8, hw8⟩
      have b8 : Below w6.heap.size w6 w8 := by rw [hw8]; exact below_drewN (Below.refl _ _) q8
      have HT8 : Hid (Tb B0 w8 T (max c (wh + 1)) (L + 400) (upk K wh ⟨k0.p, k0.sa, k0.sb, k0.sn, k0.sc, k0.S, some ⟨g5, 0, none⟩, g5, k0.bn + 400, c5, cat k0.bn k0.X Z⟩) ∧ InOk w8 g 400 cap Z ∧ Below B0 w w8) := ⟨H6.out.1.below b8, H6.out.2.1.below b8, H6.out.2.2.2.1.trans (b8.mono (by have := H6.out.2.2.2.1.size; omega))⟩
      clear hw8 b8
      go_wp2_with fail
      obtain ⟨fi, hri, hfi⟩ := HT8.out.2.1.row
      refine (over_any w8 g 400 cap cap fi Z hri (fun i hi => by rw [hfi i (by omega)]; unfold cat; rw [if_pos hi]) (fun i _ => HZ.out i) (by have := HT8.out.2.1.cap; omega) (by omega)).mono ?_
      rintro _ w9 ⟨rfl, hs9⟩
      have HF : Hid (Tb B0 w9 T (max c (wh + 1)) (L + 400) (upk K wh ⟨k0.p, k0.sa, k0.sb, k0.sn, k0.sc, k0.S, some ⟨g5, 0, none⟩, g5, k0.bn + 400, c5, cat k0.bn k0.X Z⟩) ∧ Below B0 w w9) := ⟨HT8.out.1.keep g (fun k hk hkg => hs9.block k hk hkg) H6.out.2.2.2.2.1 H6.out.2.2.2.2.2, HT8.out.2.2.trans (hs9.below (by omega) (by have := HT8.out.2.2.size; omega))⟩
      clear hs9 hri hfi HT8
      go_wp2_with fail
      go_ret
      exact ⟨rfl, _, HF.out.1, HF.out.2⟩
    · go_simp
      refine hK _ _ ?_
      clear hK K'
      refine wpAny_ready (rs := [2]) (by kernel_rfl) (by simp) ?_
      refine AllReady.cons (by simp only [List.getElem?_toArray, List.getElem?_cons_zero, List.getElem?_cons_succ]; rfl) (fun K' hK => ?_) AllReady.nil
      go_simp
      refine hK _ _ ?_
      clear hK K'
      refine wpAny_ready (rs := [10]) (by kernel_rfl) (by simp) ?_
      refine AllReady.cons (by simp only [List.getElem?_toArray, List.getElem?_cons_zero, List.getElem?_cons_succ]; rfl) (fun K' hK => ?_) AllReady.nil
      refine step_append_bytes (by rfl) (.tmp 64) (.tmp 71) (by rfl) w3.drew.heap.size _ 0 [] (by rfl) own0 k0.ba k0.bb 0 k0.bn k0.bc _ (by rfl) HVx2.out Hbl.out (by omega) (by simp) ?_
      intro v4 w4 own4 gr4 nn4
      have b34 : Below w3.heap.size w3 w4 := ba3.trans (grown_below gr4 own0 (Nat.le_refl _) (by simp))
      replace own4 : w4.ownsRow w3.heap.size 5 1 v4 k0.bn (vals (fun i => (k0.X i : Int)) k0.bn) := by simpa using own4
      obtain ⟨g4, c4, rfl, hc4, hB4, hl4⟩ := own_some own4 (fun e => by have := nn4 e; simp at this)
      have HVb4 : Hid (View w4 a bb bo 400 (fun i => (Z i : Int))) := HVb.out.below b34
      refine hK _ _ ?_
      clear hK K' gr4 nn4 own0 HVx2
      refine wpAny_ready (rs := [12]) (by kernel_rfl) (by simp) ?_
      refine AllReady.cons (by simp only [List.getElem?_toArray, List.getElem?_cons_zero, List.getElem?_cons_succ]; rfl) (fun K' hK => ?_) AllReady.nil
      refine step_append_bytes (by rfl) (.tmp 72) (.tmp 73) (by rfl) w3.heap.size _ k0.bn _ (by rfl) own4 a bb bo 400 cc _ (by rfl) HVb4.out Hnil.out (by omega) b34.size ?_
      intro v5 w5 own5 gr5 nn5
      have b35 : Below w3.heap.size w3 w5 := b34.trans (grown_below gr5 own4 (Nat.le_refl _) b34.size)
      rw [vals_cat] at own5
      obtain ⟨g5, c5, rfl, hc5, hB5, hl5⟩ := own_some own5 (fun e => by have := nn5 e; cases this)
      have r5 : w5.rowIs T 46 9 f := H3.out.2.2.of_block (b35.block _ lt3)
      have c2 := r5.cell (i := 3 + wh * 2 + 1) (by omega)
      have d2 := r5.frozen (3 + wh * 2 + 1)
      have H5 : Hid (Below w3.heap.size w3 w5 ∧ View w5 (some ⟨g5, 0, none⟩) g5 0 (k0.bn + 400) (fun i => ((cat k0.bn k0.X Z i : Nat) : Int)) ∧ w5.rowIs T 46 9 f) := ⟨b35, own_view own5 (fun i _ => by have := cat_lt (n := k0.bn) Hkx.out HZ.out i; omega) (by omega), r5⟩
      refine hK _ _ ?_
      clear hK K' gr5 nn5 own4 own5 b35 b34 r5 HVb4
      refine wpAny_take (i := 15) (v := ?_) (by simp only [List.getElem?_toArray, List.getElem?_cons_zero, List.getElem?_cons_succ]; rfl) (by kernel_rfl) (by kernel_rfl) (by kernel_rfl) (by exact fun _ _ _ h => h) (Or.inl ⟨by rfl, ?_⟩) ?_
      rotate_left
      · intro w'
        go_simp
        try with_reducible rfl
      refine wpAny_take (i := 16) (v := ?_) (by simp only [List.getElem?_toArray, List.getElem?_cons_zero, List.getElem?_cons_succ]; rfl) (by kernel_rfl) (by kernel_rfl) (by kernel_rfl) (by exact fun _ _ _ h => h) (Or.inl ⟨by rfl, ?_⟩) ?_
      rotate_left
      · intro w'
        go_simp
        try with_reducible rfl
      refine wpAny_ready (rs := [17]) (by kernel_rfl) (by simp) ?_
      refine AllReady.cons (by simp only [List.getElem?_toArray, List.getElem?_cons_zero, List.getElem?_cons_succ]; rfl) (fun K' hK => ?_) AllReady.nil
      go_simp
      refine hK _ _ ?_
      clear hK K' c2 d2
      refine wpAny_done (by kernel_rfl) ?_ _
      have s6 : Save T w5 (w5.setCell ⟨T, 3 + wh * 2 + 1, none⟩ (.slice (some ⟨g5, 0, none⟩) (k0.bn + 400) c5)) := (Save.refl _ _).setCell _ _
      have r6 : (w5.setCell ⟨T, 3 + wh * 2 + 1, none⟩ (.slice (some ⟨g5, 0, none⟩) (k0.bn + 400) c5)).rowIs T 46 9 (fun i => if i = 3 + wh * 2 + 1 then .slice (some ⟨g5, 0, none⟩) (k0.bn + 400) c5 else f i) := H5.out.2.2.set _ _
      revert s6 r6
      generalize w5.setCell ⟨T, 3 + wh * 2 + 1, none⟩ (.slice (some ⟨g5, 0, none⟩) (k0.bn + 400) c5) = w6
      intro s6 r6
      have z35 := H5.out.1.size
      have z56 := s6.size
      have w02 := HW.out.size
      have gw := HI.out.lt
      have lp := He.out.kd.lt
      have hb63 : ∀ k, k < w3.heap.size → k ≠ T → w6.heap[k]? = w3.heap[k]? := fun k hk hT => (s6.block k (by omega) hT).trans (H5.out.1.block k hk)
      have hb62 : ∀ k, k < w2.heap.size → k ≠ T → k ≠ k0.p → w6.heap[k]? = w2.heap[k]? := fun k hk hT hp => (hb63 k (by omega) hT).trans (H3.out.1.block k hk hp)
      have sT : 0 < k0.sn → k0.sb ≠ T := fun h0 => by have := (HT.out.off wh (by omega)).2.1; rw [← Hk0.out] at this; exact this h0
      have sp : 0 < k0.sn → k0.sb ≠ k0.p := fun h0 => by have := (HT.out.far wh wh (by omega) (by omega)).1; rw [← Hk0.out] at this; exact this h0
      have lp0 : B0 ≤ k0.p := by have := HT.out.lo wh (by omega); rw [← Hk0.out] at this; exact this
      have dis0 : ∀ j, j < c → j ≠ wh → Off k0.p (K j) ∧ OffD (K j).p k0 := fun j hj hne => by
        rw [Hk0.out]
        exact ⟨⟨fun e => HT.out.dis j wh hj (by omega) hne e, (HT.out.far wh j (by omega) hj).1, (HT.out.far wh j (by omega) hj).2⟩, HT.out.far j wh hj (by omega)⟩
      have e6 : Ent w6 ⟨k0.p, k0.sa, k0.sb, k0.sn, k0.sc, k0.S, some ⟨g5, 0, none⟩, g5, k0.bn + 400, c5, cat k0.bn k0.X Z⟩ :=
        ⟨⟨H3.out.2.1.st.of_block (hb63 _ (by omega) pT), H3.out.2.1.bd, H3.out.2.1.bx⟩, He.out.vs.of_blk (fun h0 => hb62 _ (He.out.vs.lt h0) (sT h0) (sp h0)), H5.out.2.1.save s6 (fun _ => by omega), He.out.hS, He.out.sc, He.out.sl, hc5, (fun h => by cases h)⟩
      have t6 := HT.out.turn (x := k0.p) (L' := L + 400) (k' := ⟨k0.p, k0.sa, k0.sb, k0.sn, k0.sc, k0.S, some ⟨g5, 0, none⟩, g5, k0.bn + 400, c5, cat k0.bn k0.X Z⟩) wh hw3 (by omega) (fun k hk hT hp => hb62 k hk hT hp) (fun j hj hne => (dis0 j hj hne).1) H2.out.2 r6
        (fun j hj h1 h2 h3 => by rw [if_neg (by omega)]) ⟨by dsimp only; rw [if_neg (by omega), Hf.out.1], by dsimp only; rw [if_neg (by omega), Hf.out.2.1], by dsimp only; rw [if_pos (by omega)]⟩ (by omega) e6 lp0 ⟨pT, sT, (fun _ => by show g5 ≠ T; omega)⟩
        (fun j hj hne => ⟨(dis0 j hj hne).1, (dis0 j hj hne).2.1, (fun h0 => by show g5 ≠ (K j).p; have := HT.out.ltp j hj; omega)⟩) ⟨sp, (fun h0 => by show g5 ≠ k0.p; omega)⟩ ⟨ln0.1, (by show k0.bn + 400 ≤ L + 400; omega)⟩ (by omega)
      have og6 : T ≠ g ∧ ∀ j, j < max c (wh + 1) → Off g (upk K wh ⟨k0.p, k0.sa, k0.sb, k0.sn, k0.sc, k0.S, some ⟨g5, 0, none⟩, g5, k0.bn + 400, c5, cat k0.bn k0.X Z⟩ j) := ⟨HOg.out.1, fun j hj => by
        by_cases e : j = wh
        · rw [e, upk_at]
          have o := HOg.out.2 wh (by omega)
          rw [← Hk0.out] at o
          exact ⟨o.1, o.2.1, (fun _ => by show g5 ≠ g; omega)⟩
        · rw [upk_ne e]
          exact HOg.out.2 j (by omega)⟩
      have bw6 : Below B0 w w6 := HW.out.trans ⟨s6.os.trans (H5.out.1.os.trans H3.out.1.os), s6.tape.trans (H5.out.1.tape.trans H3.out.1.tape), s6.output.trans (H5.out.1.output.trans H3.out.1.output), by omega, fun k hk => hb62 k (by omega) (by omega) (by omega)⟩
      have H6 : Hid (Tb B0 w6 T (max c (wh + 1)) (L + 400) (upk K wh ⟨k0.p, k0.sa, k0.sb, k0.sn, k0.sc, k0.S, some ⟨g5, 0, none⟩, g5, k0.bn + 400, c5, cat k0.bn k0.X Z⟩) ∧ InOk w6 g 400 cap Z ∧ View w6 a bb bo 400 (fun i => (Z i : Int)) ∧ Below B0 w w6 ∧ T ≠ g ∧ ∀ j, j < max c (wh + 1) → Off g (upk K wh ⟨k0.p, k0.sa, k0.sb, k0.sn, k0.sc, k0.S, some ⟨g5, 0, none⟩, g5, k0.bn + 400, c5, cat k0.bn k0.X Z⟩ j)) :=
        ⟨t6, HI.out.of (hb62 g gw (by omega) gp), HV.out.of_blk (fun h0 => hb62 bb (HV.out.lt h0) (Hfar.out (by omega)).1 (bbp h0)), bw6, og6⟩
      clear s6 r6 z35 z56 hb63 hb62 sT sp lp0 dis0 e6 t6 og6 bw6 HT HI HV HVb HVx HW HOg H3 H5 HGr w02 gw lp H2 He Hf Hk0 cS cA cA2 cA3 ba3 lt3 z23 pT bbp bT bp gp Hbl Hkx
      go_wp2_with fail
      refine (aswas_yes w6 g cap a bb bo 400 cc Z H6.out.2.2.1 (H6.out.2.1.view HZ.out (by omega)) H6.out.2.1.cap).mono ?_
      rintro _ w8 ⟨rfl, q8, hw8⟩
      have b8 : Below w6.heap.size w6 w8 := by rw [hw8]; exact below_drewN (Below.refl _ _) q8
      have HT8 : Hid (Tb B0 w8 T (max c (wh + 1)) (L + 400) (upk K wh ⟨k0.p, k0.sa, k0.sb, k0.sn, k0.sc, k0.S, some ⟨g5, 0, none⟩, g5, k0.bn + 400, c5, cat k0.bn k0.X Z⟩) ∧ InOk w8 g 400 cap Z ∧ Below B0 w w8) := ⟨H6.out.1.below b8, H6.out.2.1.below b8, H6.out.2.2.2.1.trans (b8.mono (by have := H6.out.2.2.2.1.size; omega))⟩
      clear hw8 b8
      go_wp2_with fail
      obtain ⟨fi, hri, hfi⟩ := HT8.out.2.1.row
      refine (over_any w8 g 400 cap cap fi Z hri (fun i hi => by rw [hfi i (by omega)]; unfold cat; rw [if_pos hi]) (fun i _ => HZ.out i) (by have := HT8.out.2.1.cap; omega) (by omega)).mono ?_
      rintro _ w9 ⟨rfl, hs9⟩
      have HF : Hid (Tb B0 w9 T (max c (wh + 1)) (L + 400) (upk K wh ⟨k0.p, k0.sa, k0.sb, k0.sn, k0.sc, k0.S, some ⟨g5, 0, none⟩, g5, k0.bn + 400, c5, cat k0.bn k0.X Z⟩) ∧ Below B0 w w9) := ⟨HT8.out.1.keep g (fun k hk hkg => hs9.block k hk hkg) H6.out.2.2.2.2.1 H6.out.2.2.2.2.2, HT8.out.2.2.trans (hs9.below (by omega) (by have := HT8.out.2.2.size; omega))⟩
      clear hs9 hri hfi HT8
      go_wp2_with fail
      go_ret
      exact ⟨rfl, _, HF.out.1, HF.out.2⟩
end Go.Proofs.YtleabfmlokjllaaDoor
