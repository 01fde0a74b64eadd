import Derived.Test.YtlhllbggnpcoaaaGreatDoorMacE
/-
  mac: Code, of a code on its way and of parts.
-/
namespace Go.Proofs.YtlhllbggnpcoaaaGreatDoor
open Go.RowKit

/-- two lists of bytes, in a new list -/
theorem parts_two {w : World} {A0 A1 : Option Addr} {b0 o0 m0 c0 b1 o1 m1 c1 : Nat} {Y0 Y1 : Nat → Nat} (h0 : View w A0 b0 o0 m0 (fun i => (Y0 i : Int))) (h1 : View w A1 b1 o1 m1 (fun i => (Y1 i : Int))) (k0 : m0 ≤ c0) (k1 : m1 ≤ c1) (hY0 : ∀ i, Y0 i < 256) (hY1 : ∀ i, Y1 i < 256) (t : TypeId) :
    Parts (w.alloc (.cells #[.slice A0 m0 c0, .slice A1 m1 c1] t)) (some ⟨w.heap.size, 0, none⟩) w.heap.size 0 2 (fun i => if i = 0 then A0 else A1) (fun i => if i = 0 then b0 else b1) (fun i => if i = 0 then o0 else o1) (fun i => if i = 0 then m0 else m1) (fun i => if i = 0 then c0 else c1) (fun i => if i = 0 then Y0 else Y1) := by
  have hb : Below w.heap.size w (w.alloc (.cells #[.slice A0 m0 c0, .slice A1 m1 c1] t)) := (Below.refl _ _).alloc (Nat.le_refl _) _
  refine ⟨fun _ => rfl, fun i hi => ?_, fun i hi => ?_, fun i hi => ?_, fun i j => ?_⟩
  · rw [cell_of_row _ _ _ _ t _ (heap_alloc_new w _)]
    match i, hi with
    | 0, _ => rfl
    | 1, _ => rfl
  · match i, hi with
    | 0, _ => exact h0.below hb
    | 1, _ => exact h1.below hb
  · match i, hi with
    | 0, _ => exact k0
    | 1, _ => exact k1
  · by_cases e : i = 0
    · simp only [if_pos e]
      exact hY0 j
    · simp only [if_neg e]
      exact hY1 j
theorem digest_two (m0 m1 : Nat) (Y0 Y1 : Nat → Nat) : digest (tot (fun i => if i = 0 then m0 else m1) 2) (jn (fun i => if i = 0 then m0 else m1) (fun i => if i = 0 then Y0 else Y1) 2) = digest (m0 + m1) (cat m0 Y0 Y1) := by
  have e : tot (fun i => if i = 0 then m0 else m1) 2 = m0 + m1 := by simp [tot]
  rw [e]
  refine digest_congr (fun i _ => ?_)
  simp [jn, cat, tot]
theorem sum_two (w : World) (A0 A1 : Option Addr) (b0 o0 m0 c0 b1 o1 m1 c1 t cap : Nat) (Y0 Y1 : Nat → Nat) (h0 : View w A0 b0 o0 m0 (fun i => (Y0 i : Int))) (h1 : View w A1 b1 o1 m1 (fun i => (Y1 i : Int))) (k0 : m0 ≤ c0) (k1 : m1 ≤ c1) (hY0 : ∀ i, Y0 i < 256) (hY1 : ∀ i, Y1 i < 256) (hG : Ground w) :
    Calls Tryz.prog 27 #[.slice (some ⟨w.heap.size, 0, none⟩) 2 cap] (w.alloc (.cells #[.slice A0 m0 c0, .slice A1 m1 c1] t)) fun e w' => e = .returned (.agg (hashA (digest (m0 + m1) (cat m0 Y0 Y1)))) ∧ Below (w.alloc (.cells #[.slice A0 m0 c0, .slice A1 m1 c1] t)).heap.size (w.alloc (.cells #[.slice A0 m0 c0, .slice A1 m1 c1] t)) w' := by
  have G := hG.below ((Below.refl _ _).alloc (Nat.le_refl _) (.cells #[.slice A0 m0 c0, .slice A1 m1 c1] t))
  have h := sums_any _ _ _ _ 2 cap _ _ _ _ _ _ (parts_two h0 h1 k0 k1 hY0 hY1 t) G.roots G.first G.big (by omega) (by have := h0.len; have := h1.len; simp [tot]; omega)
  rw [digest_two] at h
  exact h

set_option maxRecDepth 100000 in
set_option maxHeartbeats 1600000 in
theorem mcode_any (w : World) (p : Nat) (B : Nat → Nat) (m : Nat) (X : Nat → Nat) (h : Kd w p B m X) (hG : Ground w) (hlen : 64 + m ≤ 576460752303423488) :
    Calls Tryz.prog 84 #[.pointer (some ⟨p, 0, none⟩)] w fun e w' => e = .returned (.agg (hashA (hmac B m X))) ∧ Below w.heap.size w w' := by
  have b1 : Below w.heap.size w (w.alloc (.cells Z32 31)) := (Below.refl _ _).alloc (Nat.le_refl _) _
  have cs := sum_any (w.alloc (.cells Z32 31)) p (64 + m) _ (h.st.below b1) (hG.below b1).roots (hG.below b1).big hlen
  obtain ⟨D, hD⟩ : ∃ D, D = digest (64 + m) (cat 64 (msk 54 B) X) := ⟨_, rfl⟩
  rw [← hD] at cs
  have HM : Hid (digest 96 (cat 64 (msk 92 B) (hb D)) = hmac B m X) := by unfold hmac; rw [hD]; rfl
  have HK : Hid (Kd w p B m X ∧ Ground w ∧ Below w.heap.size w (w.alloc (.cells Z32 31)) ∧ (w.alloc (.cells Z32 31)).heap[w.heap.size]? = some (.cells Z32 31 (0, 0))) := ⟨h, hG, b1, heap_alloc_new _ _⟩
  clear h hG b1 hD
  go_enter Tryz.func84, Tryz.ntmps84
  go_wp2_with fail
  refine cs.mono ?_
  rintro _ w1 ⟨rfl, hb1⟩
  have hl := hash_laid w1 D
  have bw : Below w.heap.size w ((w1.alloc (.cells Z32 31)).setRow w1.heap.size (hashA D)) := ch HK.out.2.2.1 (ch hb1 hl.2)
  have HX : Hid (HashAt ((w1.alloc (.cells Z32 31)).setRow w1.heap.size (hashA D)) w1.heap.size D ∧ Below w.heap.size w ((w1.alloc (.cells Z32 31)).setRow w1.heap.size (hashA D)) ∧ ((w1.alloc (.cells Z32 31)).setRow w1.heap.size (hashA D)).heap[w.heap.size]? = some (.cells Z32 31 (0, 0))) :=
    ⟨hl.1, bw, ((ch hb1 hl.2).block _ (by simp)).trans HK.out.2.2.2⟩
  clear hl hb1 cs bw
  go_wp2_with (refine wpList_store_row (by rfl) 31 (.tmp 3) (.tmp 10) (by rfl) w1.heap.size (hashA D) (by rfl) (by rfl) 31 Z32 (heap_alloc_new _ _) (hashA_info _) (Z32_hash _) (hashA_one _) ?_; change wpList _ _ _ _ _ ((w1.alloc (.cells Z32 31)).setRow w1.heap.size (hashA D)); revert HX; generalize (w1.alloc (.cells Z32 31)).setRow w1.heap.size (hashA D) = w2; intro HX)
  have bd : Below w2.heap.size w2 w2.drew := (Below.refl _ _).drew
  have vo : View w2.drew (some ⟨p, 73, none⟩) p 73 64 (fun i => ((msk 92 B i : Nat) : Int)) := ⟨fun _ => rfl, (HK.out.1.below (HX.out.2.1.trans (bd.mono HX.out.2.1.size))).outer, fun i _ => by have := msk_lt (x := 92) (by decide) HK.out.1.bd i; omega, by omega⟩
  have cz := sum_two w2.drew (some ⟨p, 73, none⟩) (some ⟨w1.heap.size, 0, none⟩) p 73 64 64 w1.heap.size 0 32 32 26 2 (msk 92 B) (hb D) vo ((hash_view HX.out.1).below bd) (by decide) (by decide) (msk_lt (by decide) HK.out.1.bd) (hb_lt D) ((HK.out.2.1.below HX.out.2.1).below bd)
  rw [show (64 + 32 : Nat) = 96 from rfl, HM.out] at cz
  clear vo bd
  refine wp_region_held_drew (S := fun _ => True) (by kernel_rfl) trivial ?_
  intro hS
  change wpAnyH _ _ _ _ _ 8 _ _ _
  refine wpAnyH_take (i := 0) (v := ?_) (by simp only [List.getElem?_toArray, List.getElem?_cons_zero]; rfl) (by kernel_rfl) (by kernel_rfl) (by kernel_rfl) (by exact fun _ _ _ h => h) (Or.inl ⟨by rfl, ?_⟩) trivial ?_
  rotate_left
  · intro w' _
    go_simp
    try with_reducible rfl
  refine wpAnyH_take (i := 1) (v := ?_) (by simp only [List.getElem?_toArray, List.getElem?_cons_zero, List.getElem?_cons_succ]; rfl) (by kernel_rfl) (by kernel_rfl) (by kernel_rfl) (by exact fun _ _ _ h => h) (Or.inl ⟨by rfl, ?_⟩) trivial ?_
  rotate_left
  · intro w' _
    go_simp
    try with_reducible rfl
  refine wpAnyH_take (i := 2) (v := ?_) (by simp only [List.getElem?_toArray, List.getElem?_cons_zero, List.getElem?_cons_succ]; rfl) (by kernel_rfl) (by kernel_rfl) (by kernel_rfl) (by exact fun _ _ _ h => h) (Or.inl ⟨by rfl, ?_⟩) trivial ?_
  rotate_left
  · intro w' _
    go_simp
    try with_reducible rfl
  refine wpAnyH_take (i := 3) (v := ?_) (by simp only [List.getElem?_toArray, List.getElem?_cons_zero, List.getElem?_cons_succ]; rfl) (by kernel_rfl) (by kernel_rfl) (by kernel_rfl) (by exact fun _ _ _ h => h) (Or.inl ⟨by rfl, ?_⟩) trivial ?_
  rotate_left
  · intro w' _
    go_simp
    try with_reducible rfl
  refine wpAnyH_take (i := 4) (v := ?_) (by simp only [List.getElem?_toArray, List.getElem?_cons_zero, List.getElem?_cons_succ]; rfl) (by kernel_rfl) (by kernel_rfl) (by kernel_rfl) (by exact fun _ _ _ h => h) (Or.inl ⟨by rfl, ?_⟩) trivial ?_
  rotate_left
  · intro w' _
    go_simp
    try with_reducible rfl
  refine wpAnyH_ready (rs := [5]) (by kernel_rfl) (by simp) ?_
  refine AllReadyH.cons (by simp only [List.getElem?_toArray, List.getElem?_cons_zero, List.getElem?_cons_succ]; rfl) (fun K hK => ?_) AllReadyH.nil
  go_simp
  refine hK.out _ _ trivial (fun _ => ?_)
  clear hK K
  refine wpAnyH_ready (rs := [6]) (by kernel_rfl) (by simp) ?_
  refine AllReadyH.cons (by simp only [List.getElem?_toArray, List.getElem?_cons_zero, List.getElem?_cons_succ]; rfl) (fun K hK => ?_) AllReadyH.nil
  go_simp
  refine cz.mono ?_
  rintro _ w3 ⟨rfl, hb3⟩
  have HZ : Hid (Below w.heap.size w w3 ∧ w3.heap[w.heap.size]? = some (.cells Z32 31 (0, 0))) := by
    have b2 : Below w2.heap.size w2 w3 := Below.trans (((Below.refl _ _).drew).alloc (Nat.le_refl _) _) (hb3.mono (by simp))
    have lt : w.heap.size < w2.heap.size := by
      by_cases e : w.heap.size < w2.heap.size
      · exact e
      · have hn : w2.heap[w.heap.size]? = none := by simp; omega
        rw [hn] at HX
        cases HX.out.2.2
    exact ⟨HX.out.2.1.trans (b2.mono HX.out.2.1.size), (b2.block _ lt).trans HX.out.2.2⟩
  refine hK.out _ _ trivial (fun _ => ?_)
  clear hK K hb3 cz
  refine wpAnyH_ready (rs := [7]) (by kernel_rfl) (by simp) ?_
  refine AllReadyH.cons (by simp only [List.getElem?_toArray, List.getElem?_cons_zero, List.getElem?_cons_succ]; rfl) (fun K hK => ?_) AllReadyH.nil
  rw [if_pos (by rfl)]
  refine wp_store_row 31 (.tmp 2) (.tmp 17) (by rfl) w.heap.size (hashA (hmac B m X)) (by rfl) (by rfl) 31 Z32 HZ.out.2 (hashA_info _) (Z32_hash _) (hashA_one _) ?_
  refine hK.out _ _ trivial (fun _ => ?_)
  clear hK K
  refine wpAnyH_done (by kernel_rfl) ?_ _
  go_wp2_with fail
  refine bodyPost_ret (v := .agg (hashA (hmac B m X))) ?_ rfl ?_
  · exact results_cell_row rfl _ _ w.heap.size 31 (hashA (hmac B m X)) (0, 0) _ rfl (setRow_heap _ _ _ _ _ _ HZ.out.2) Tryz.underlying31 rfl (hashA_info _)
  · exact ⟨rfl, below_setRow HZ.out.1 (Nat.le_refl _) _⟩

/-- a code over parts, on its way -/
structure CmF (w wr : World) (p : Nat) (B : Nat → Nat) (m : Nat) (X : Nat → Nat) : Prop where
  below : Below w.heap.size w wr
  lo : w.heap.size < p
  out : wr.rowIs w.heap.size 31 32 (fun _ => .int .u8 0)
  kd : Kd wr p B m X

set_option maxRecDepth 100000 in
set_option maxHeartbeats 4000000 in
theorem mcodes_any (w : World) (Sa : Option Addr) (sb so n sc : Nat) (S : Nat → Nat) (hv : View w Sa sb so n (fun i => (S i : Int))) (hsc : n ≤ sc) (hS : ∀ i, S i < 256)
    (pa : Option Addr) (pb po k cap : Nat) (A : Nat → Option Addr) (b off m c : Nat → Nat) (Y : Nat → Nat → Nat) (h : Parts w pa pb po k A b off m c Y) (hG : Ground w) (hkm : k ≤ 281474976710656) (hlen : tot m k ≤ 288230376151711744) :
    Calls Tryz.prog 57 #[.slice Sa n sc, .slice pa k cap] w fun e w' => e = .returned (.agg (hashA (hmac (blk n S) (tot m k) (jn m Y k)))) ∧ Below w.heap.size w w' := by
  have b1 : Below w.heap.size w (w.alloc (.cells Z32 31)) := (Below.refl _ _).alloc (Nat.le_refl _) _
  have o1 : (w.alloc (.cells Z32 31)).rowIs w.heap.size 31 32 (fun _ => .int .u8 0) := by rw [Z32_rep]; exact zeros_row w _ 32 31
  have cn := mnew_any (w.alloc (.cells Z32 31)) Sa sb so n sc S (hv.below b1) hsc hS (hG.below b1)
  obtain ⟨B, hB⟩ : ∃ B, B = blk n S := ⟨_, rfl⟩
  rw [← hB] at cn ⊢
  have HP : Hid (Parts w pa pb po k A b off m c Y) := h
  have HB1 : Hid (Below w.heap.size w (w.alloc (.cells Z32 31)) ∧ (w.alloc (.cells Z32 31)).rowIs w.heap.size 31 32 (fun _ => .int .u8 0)) := ⟨b1, o1⟩
  have HG : Hid (Ground w) := hG
  clear h b1 o1 hG hv hB hS
  go_enter Tryz.func57, Tryz.ntmps57
  go_wp2_with fail
  refine cn.mono ?_
  rintro _ w1 ⟨p, rfl, hp, kd1, hb1⟩
  rw [World.size_alloc] at hp
  have HS1 : Hid (CmF w w1 p B (tot m 0) (jn m Y 0)) := ⟨ch HB1.out.1 hb1, by omega, HB1.out.2.of_block (hb1.block _ (by simp)), kd1⟩
  clear kd1 hb1 HB1 cn
  go_wp2_with fail
  go_loopg [12] k (fun g i wr => ∃ j : Nat, j ≤ k ∧ g = k - j ∧ i = .int .i64 j ∧ CmF w wr p B (tot m j) (jn m Y j))
  case atStart => exact ⟨0, by omega, rfl, rfl, HS1.out⟩
  case round =>
    obtain ⟨j, hj, rfl, rfl, hR⟩ := hrel
    clear HS1
    by_cases hjk : j < k
    · obtain rfl := HP.out.at_ (by omega)
      have cj : wr.cell? ⟨pb, po + j, none⟩ = some (.slice (A j) (m j) (c j)) := (HP.out.below hR.below).cell j hjk
      have vj : View wr (A j) (b j) (off j) (m j) (fun t => (Y j t : Int)) := (HP.out.below hR.below).view j hjk
      have capj := HP.out.cap j hjk
      have bj : 0 < m j → b j ≠ p := fun h0 => by have := (HP.out.view j hjk).lt h0; have := hR.lo; omega
      have lj : 64 + tot m j + m j ≤ 1152921504606846976 := by have := tot_mono m (show j + 1 ≤ k by omega); simp only [tot] at this; omega
      have HR : Hid (CmF w wr p B (tot m j) (jn m Y j)) := hR
      have HV : Hid (View wr (A j) (b j) (off j) (m j) (fun t => (Y j t : Int))) := vj
      clear hR vj
      go_wp2_with fail
      refine (mwrite_any wr p B _ _ HR.out.kd _ (b j) (off j) (m j) (c j) (Y j) HV.out (HP.out.bd j) bj capj (HG.out.below HR.out.below) (by have := HR.out.lo; have := HG.out.big; omega) lj).mono ?_
      rintro _ w2 ⟨rfl, hs2, kd2⟩
      have HN : Hid (CmF w w2 p B (tot m (j + 1)) (jn m Y (j + 1))) := ⟨HR.out.below.trans (hs2.below (by omega) HR.out.below.size), HR.out.lo, hs2.row HR.out.out (by have := HR.out.lo; omega), kd2⟩
      clear hs2 kd2 cj
      go_wp2_with fail
      go_roundg (k - (j + 1))
      case measure => omega
      case rel => exact ⟨j + 1, by omega, rfl, by go_num, HN.out⟩
    · have : j = k := by omega
      subst this
      have HR : Hid (CmF w wr p B (tot m j) (jn m Y j)) := hR
      clear hR
      go_wp2_with fail
      refine (mcode_any wr p B _ _ HR.out.kd (HG.out.below HR.out.below) (by omega)).mono ?_
      rintro _ w2 ⟨rfl, hb2⟩
      obtain ⟨os, og, osz, _⟩ := HR.out.out.of_block (hb2.block w.heap.size (by have := HR.out.lo; have := HR.out.kd.lt; omega))
      obtain ⟨D, hD⟩ : ∃ x, x = hmac B (tot m j) (jn m Y j) := ⟨_, rfl⟩
      have ho : os.size = (hashA D).size := by rw [hashA_size]; exact osz
      have HB : Hid (Below w.heap.size w w2) := HR.out.below.trans (hb2.mono HR.out.below.size)
      rw [← hD]
      have HD : Hid (D = hmac B (tot m j) (jn m Y j)) := hD
      clear hD hb2 HR
      go_wp2_with (refine wpList_store_row (by rfl) 31 (.tmp 4) (.tmp 21) (by rfl) w.heap.size (hashA D) (by rfl) (by rfl) 31 os og (hashA_info _) ho (hashA_one _) ?_)
      refine bodyPost_ret (v := .agg (hashA D)) ?_ rfl ?_
      · exact results_cell_row rfl _ _ w.heap.size 31 (hashA D) (0, 0) _ rfl (setRow_heap _ _ _ _ _ _ og) Tryz.underlying31 rfl (hashA_info _)
      · exact ⟨by rw [HD.out], below_setRow HB.out (Nat.le_refl _) _⟩
end Go.Proofs.YtlhllbggnpcoaaaGreatDoor
