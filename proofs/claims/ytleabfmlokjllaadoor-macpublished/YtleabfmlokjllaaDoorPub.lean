/-
  MacPublished: the law.
-/
import Derived.Test.YtleabfmlokjllaaDoorPcA
import Derived.Test.YtleabfmlokjllaaDoorBlkP
namespace Go.Proofs.YtleabfmlokjllaaDoor
open Go.RowKit

theorem own_vw {w' : World} {B g n c : Nat} {Y : Nat → Int} (h : w'.ownsRow B 5 1 (.slice (some ⟨g, 0, none⟩) n c) n (vals Y n)) (hb : ∀ i, i < n → 0 ≤ Y i ∧ Y i ≤ 255) (hn : n ≤ 281474976710656) : View w' (some ⟨g, 0, none⟩) g 0 n Y := by
  refine ⟨fun _ => rfl, fun i hi => ?_, hb, hn⟩
  rw [Nat.zero_add, h.cellAt i (by omega)]
  simp [vals, hi]
/-- a short secret with a zero byte behind it, a long one by its sum -/
theorem blk_zero {n : Nat} {S : Nat → Nat} (h : n < 64) : blk (n + 1) (cat n S (fun _ => 0)) = blk n S := by
  funext i
  unfold blk cat
  rw [if_pos (show n + 1 ≤ 64 by omega), if_pos (show n ≤ 64 by omega)]
  by_cases e : i < n
  · rw [if_pos (by omega), if_pos e]
  · rw [if_neg e]
    split <;> rfl
theorem blk_long {n : Nat} {S : Nat → Nat} (h : ¬ n ≤ 64) : blk 32 (hb (digest n S)) = blk n S := by
  funext i
  unfold blk
  rw [if_pos (by decide), if_neg h]

theorem View.of_b {w w' : World} {a : Option Addr} {b off n : Nat} {Z : Nat → Int} (h : View w a b off n Z) (hb : 0 < n → w'.heap[b]? = w.heap[b]?) : View w' a b off n Z :=
  ⟨h.at_, fun i hi => (World.cell?_of_block (w := w) (hb (by omega))).trans (h.cell i hi), h.bd, h.len⟩
theorem lt_of_some {w : World} {g : Nat} {o : Obj} (h : w.heap[g]? = some o) : g < w.heap.size := by
  by_cases e : g < w.heap.size
  · exact e
  · have hn : w.heap[g]? = none := by simp; omega
    rw [hn] at h
    cases h
theorem own_ne_list {w : World} {b n g : Nat} {v : Value} {xs : List Value} {cs : Array Value} {fr : Nat × Nat} (o : w.ownsRow b 5 1 v n xs) (h : w.heap[g]? = some (.cells cs 22 fr)) : v.ownBlock ≠ some g := by
  intro e
  rcases o.2 with ⟨rfl, _⟩ | ⟨g', cap, cur, rfl, _, hg, _⟩
  · cases e
  · have e1 : g' = g := by simpa [Value.ownBlock] using e
    rw [e1, h] at hg
    have := Option.some.inj hg
    injection this with _ h2 _
    cases h2
theorem parts_at {w : World} {g : Nat} {A : Option Addr} {b off m c : Nat} {Y : Nat → Nat} (h : w.heap[g]? = some (.cells #[.slice A m c] 22 (0, 0))) (hv : View w A b off m (fun i => (Y i : Int))) (hc : m ≤ c) (hY : ∀ i, Y i < 256) :
    Parts w (some ⟨g, 0, none⟩) g 0 1 (fun _ => A) (fun _ => b) (fun _ => off) (fun _ => m) (fun _ => c) (fun _ => Y) := by
  refine ⟨fun _ => rfl, fun i hi => ?_, fun i hi => hv, fun i hi => hc, fun _ => hY⟩
  have : i = 0 := by omega
  subst this
  rw [cell_of_row _ _ _ _ 22 _ h]
  rfl

set_option maxRecDepth 100000 in
set_option maxHeartbeats 8000000 in
theorem published_law (W : World) (Sa : Option Addr) (sb so n sc : Nat) (S : Nat → Nat) (hvS : View W Sa sb so n (fun i => (S i : Int))) (hsc : n ≤ sc) (hS : ∀ i, S i < 256) (hSn : Sa = none → sc = 0)
    (ma : Option Addr) (mb mo m mc : Nat) (X : Nat → Nat) (hvM : View W ma mb mo m (fun i => (X i : Int))) (hmc : m ≤ mc) (hX : ∀ i, X i < 256) (hG : Ground W) :
    Calls Tryd.prog 3 #[.slice Sa n sc, .slice ma m mc] W fun e w' => e = .returned (.bool true) ∧ Below W.heap.size W w' := by
  have HA : Hid (View W Sa sb so n (fun i => (S i : Int)) ∧ View W ma mb mo m (fun i => (X i : Int)) ∧ Ground W) := ⟨hvS, hvM, hG⟩
  have HS : Hid (∀ i, S i < 256) := hS
  have HX : Hid (∀ i, X i < 256) := hX
  have hB := blk_lt (n := n) hS
  have HB : Hid (∀ i, blk n S i < 256) := hB
  have ln := hvS.len
  have lm := hvM.len
  have cb := lblock_any W Sa sb so n sc S hvS hsc hS 54 (by decide) hG
  clear hvS hvM hG hS hX hB
  go_enter Tryd.func3, Tryd.ntmps3
  go_wp2_with fail
  refine cb.mono ?_
  rintro _ w1 ⟨rfl, own1, hb1⟩
  have v1 := own_vw own1 (fun i _ => by have := msk_lt (x := 54) (by decide) HB.out i; omega) (by omega)
  have cs := sum_two w1 (some ⟨W.heap.size, 0, none⟩) ma W.heap.size 0 64 64 mb mo m mc 22 2 (msk 54 (blk n S)) X v1 (HA.out.2.1.below hb1) (Nat.le_refl _) hmc (msk_lt (by decide) HB.out) HX.out (HA.out.2.2.below hb1)
  obtain ⟨D1, hD1⟩ : ∃ D, D = digest (64 + m) (cat 64 (msk 54 (blk n S)) X) := ⟨_, rfl⟩
  rw [← hD1] at cs
  have HM : Hid (digest 96 (cat 64 (msk 92 (blk n S)) (hb D1)) = hmac (blk n S) m X) := by unfold hmac; rw [hD1]; rfl
  have H1 : Hid (Below W.heap.size W (w1.alloc (.cells #[.slice (some ⟨W.heap.size, 0, none⟩) 64 64, .slice ma m mc] 22))) := hb1.alloc hb1.size _
  clear own1 hb1 v1 cb hD1
  go_wp2_with fail
  refine cs.mono ?_
  rintro _ w2 ⟨rfl, hb2⟩
  have hl := hash_laid w2 D1
  have H2 : Hid (HashAt ((w2.alloc (.cells Z32 24)).setRow w2.heap.size (hashA D1)) w2.heap.size D1 ∧ Below W.heap.size W ((w2.alloc (.cells Z32 24)).setRow w2.heap.size (hashA D1))) := ⟨hl.1, ch (ch H1.out hb2) hl.2⟩
  clear hl hb2 cs H1
  go_wp2_with (first
    | (refine wpList_store_row (by rfl) 24 (.tmp 5) (.tmp 12) (by rfl) w2.heap.size (hashA D1) (by rfl) (by rfl) 24 Z32 (heap_alloc_new _ _) (hashA_info _) (Z32_hash _) (hashA_one _) ?_; change wpList _ _ _ _ _ ((w2.alloc (.cells Z32 24)).setRow w2.heap.size (hashA D1)); revert H2; generalize (w2.alloc (.cells Z32 24)).setRow w2.heap.size (hashA D1) = w3; intro H2))
  have co := mcode_one w3 Sa sb so n sc S (HA.out.1.below H2.out.2) hsc HS.out ma mb mo m mc 22 1 X (HA.out.2.1.below H2.out.2) hmc HX.out (HA.out.2.2.below H2.out.2)
  obtain ⟨D, hD⟩ : ∃ D, D = hmac (blk n S) m X := ⟨_, rfl⟩
  rw [← hD] at co HM
  have HD : Hid (D = hmac (blk n S) m X) := hD
  clear hD
  refine co.mono ?_
  rintro _ w4 ⟨rfl, hb4⟩
  have hl := hash_laid w4 D
  have H4 : Hid (HashAt ((w4.alloc (.cells Z32 24)).setRow w4.heap.size (hashA D)) w4.heap.size D ∧ HashAt ((w4.alloc (.cells Z32 24)).setRow w4.heap.size (hashA D)) w2.heap.size D1 ∧ Below W.heap.size W ((w4.alloc (.cells Z32 24)).setRow w4.heap.size (hashA D))) := ⟨hl.1, H2.out.1.below (ch hb4 hl.2), ch H2.out.2 (ch hb4 hl.2)⟩
  clear hl hb4 co H2
  go_wp2_with (refine wpList_store_row (by rfl) 24 (.tmp 6) (.tmp 16) (by rfl) w4.heap.size (hashA D) (by rfl) (by rfl) 24 Z32 (heap_alloc_new _ _) (hashA_info _) (Z32_hash _) (hashA_one _) ?_; change wpList _ _ _ _ _ ((w4.alloc (.cells Z32 24)).setRow w4.heap.size (hashA D)); revert H4; generalize (w4.alloc (.cells Z32 24)).setRow w4.heap.size (hashA D) = w5; intro H4)
  have bd : Below w5.heap.size w5 w5.drew := (Below.refl _ _).drew
  have bw5 : Below W.heap.size W w5.drew := H4.out.2.2.drew
  have r0 : w5.drew.rangeAt w4.heap.size 0 (hashL D) := (H4.out.1.below bd).range
  have cb := lblock_any w5.drew Sa sb so n sc S (HA.out.1.below bw5) hsc HS.out 92 (by decide) (HA.out.2.2.below bw5)
  have eqh := fun w0 => eq_hashL w0 D
  clear bd bw5
  refine wp_region_held_drew (S := fun w' => w'.rangeAt w4.heap.size 0 (hashL D)) (by kernel_rfl) r0 ?_
  intro hS
  change wpAnyH _ _ _ _ _ 11 _ _ _
  refine wpAnyH_take (i := 0) (by simp only [List.getElem?_toArray, List.getElem?_cons_zero]; rfl) (by kernel_rfl) (by kernel_rfl) (by kernel_rfl) (by exact fun _ _ _ h => h) (yieldsIf_load_mid (by rfl) _ _ rfl _ _ rfl _ _ (fun _ h => h) Tryd.underlying24 rfl (hashL_len _)) hS ?_
  refine wpAnyH_take (i := 1) (v := ?_) (by simp only [List.getElem?_toArray, List.getElem?_cons_zero, List.getElem?_cons_succ]; rfl) (by kernel_rfl) (by kernel_rfl) (by kernel_rfl) (by exact fun _ _ _ h => h) (Or.inl ⟨by rfl, ?_⟩) hS ?_
  rotate_left
  · intro w' _
    go_simp
    try with_reducible rfl
  refine wpAnyH_take (i := 3) (v := ?_) (by simp only [List.getElem?_toArray, List.getElem?_cons_zero, List.getElem?_cons_succ]; rfl) (by kernel_rfl) (by kernel_rfl) (by kernel_rfl) (by exact fun _ _ _ h => h) (Or.inl ⟨by rfl, ?_⟩) hS ?_
  rotate_left
  · intro w' _
    go_simp
    try with_reducible rfl
  refine wpAnyH_ready (rs := [2]) (by kernel_rfl) (by simp) ?_
  refine AllReadyH.cons (by simp only [List.getElem?_toArray, List.getElem?_cons_zero, List.getElem?_cons_succ]; rfl) (fun K' hK => ?_) AllReadyH.nil
  go_simp
  refine cb.mono ?_
  rintro _ w6 ⟨rfl, own6, hb6⟩
  have b56 : Below w5.heap.size w5 w6 := Below.trans (Below.drew (Below.refl _ _)) hb6
  have v6 := own_vw own6 (fun i _ => by have := msk_lt (x := 92) (by decide) HB.out i; omega) (by omega)
  have cs := sum_two w6 (some ⟨w5.heap.size, 0, none⟩) (some ⟨w2.heap.size, 0, none⟩) w5.heap.size 0 64 64 w2.heap.size 0 32 32 22 2 (msk 92 (blk n S)) (hb D1) v6 ((hash_view H4.out.2.1).below b56) (Nat.le_refl _) (Nat.le_refl _) (msk_lt (by decide) HB.out) (hb_lt D1) (HA.out.2.2.below (ch H4.out.2.2 b56))
  rw [show (64 + 32 : Nat) = 96 from rfl, HM.out] at cs
  have bA : Below w5.heap.size w5 (w6.alloc (.cells #[.slice (some ⟨w5.heap.size, 0, none⟩) 64 64, .slice (some ⟨w2.heap.size, 0, none⟩) 32 32] 22)) := b56.alloc b56.size _
  have H6 : Hid (Below w5.heap.size w5 (w6.alloc (.cells #[.slice (some ⟨w5.heap.size, 0, none⟩) 64 64, .slice (some ⟨w2.heap.size, 0, none⟩) 32 32] 22))) := bA
  refine hK.out _ _ (H4.out.1.below b56).range (fun _ => ?_)
  clear hK K' cb own6 hb6 b56 v6 bA
  refine wpAnyH_ready (rs := [4]) (by kernel_rfl) (by simp) ?_
  refine AllReadyH.cons (by simp only [List.getElem?_toArray, List.getElem?_cons_zero, List.getElem?_cons_succ]; rfl) (fun K' hK => ?_) AllReadyH.nil
  go_simp
  refine hK.out _ _ (H4.out.1.below H6.out).range (fun _ => ?_)
  clear hK K'
  refine wpAnyH_ready (rs := [5]) (by kernel_rfl) (by simp) ?_
  refine AllReadyH.cons (by simp only [List.getElem?_toArray, List.getElem?_cons_zero, List.getElem?_cons_succ]; rfl) (fun K' hK => ?_) AllReadyH.nil
  go_simp
  refine cs.mono ?_
  rintro _ w7 ⟨rfl, hb7⟩
  have H7 : Hid (Below w5.heap.size w5 w7) := ch H6.out hb7
  refine hK.out _ _ (H4.out.1.below H7.out).range (fun hS => ?_)
  clear hK K' hb7 cs H6
  refine wpAnyH_take (i := 6) (v := ?_) (by simp only [List.getElem?_toArray, List.getElem?_cons_zero, List.getElem?_cons_succ]; rfl) (by kernel_rfl) (by kernel_rfl) (by kernel_rfl) (by exact fun _ _ _ h => h) (Or.inl ⟨by rfl, ?_⟩) hS ?_
  rotate_left
  · intro w' _
    go_simp
    try with_reducible rfl
  refine wpAnyH_take (i := 7) (v := ?_) (by simp only [List.getElem?_toArray, List.getElem?_cons_zero, List.getElem?_cons_succ]; rfl) (by kernel_rfl) (by kernel_rfl) (by kernel_rfl) (by exact fun _ _ _ h => h) (Or.inl ⟨by rfl, ?_⟩) hS ?_
  rotate_left
  · intro w' _
    go_simp
    try with_reducible rfl
  refine wpAnyH_ready (rs := [8]) (by kernel_rfl) (by simp) ?_
  refine AllReadyH.cons (by simp only [List.getElem?_toArray, List.getElem?_cons_zero, List.getElem?_cons_succ]; rfl) (fun K' hK => ?_) AllReadyH.nil
  rw [if_pos (by kernel_rfl)]
  go_simp
  refine (known_any w7 kS3 kT3 3054725018 173 (by decide) (by decide) (HA.out.2.2.below (ch H4.out.2.2 H7.out)) kD3 kcode3 kfirst3 klast3).mono ?_
  rintro _ w8 ⟨rfl, hb8⟩
  have H8 : Hid (HashAt w8 w4.heap.size D ∧ Below W.heap.size W w8) := ⟨H4.out.1.below (ch H7.out hb8), ch H4.out.2.2 (ch H7.out hb8)⟩
  refine hK.out _ _ H8.out.1.range (fun hS => ?_)
  clear hK K' hb8 H7 H4
  refine wpAnyH_take (i := 9) (v := ?_) (by simp only [List.getElem?_toArray, List.getElem?_cons_zero, List.getElem?_cons_succ]; rfl) (by kernel_rfl) (by kernel_rfl) (by kernel_rfl) (by exact fun _ _ _ h => h) (Or.inl ⟨by kernel_rfl, ?_⟩) hS ?_
  rotate_left
  · intro w' _
    go_simp
    try with_reducible rfl
  refine wpAnyH_take (i := 10) (v := ?_) (by simp only [List.getElem?_toArray, List.getElem?_cons_zero, List.getElem?_cons_succ]; rfl) (by kernel_rfl) (by kernel_rfl) (by kernel_rfl) (by exact fun _ _ _ h => h) (Or.inl ⟨by rfl, ?_⟩) hS ?_
  rotate_left
  · intro w' _
    go_simp
    try with_reducible rfl
  refine wpAnyH_done (by kernel_rfl) ?_ _
  clear hS r0 HM
  by_cases hn : n ≤ 64
  · by_cases e64 : n = 64
    · have q1 : ¬ (64 : Int) < (n : Int) := by omega
      have q2 : (n : Int) = 64 := by omega
      clear e64 hn
      go_wp2_with fail
      have bd : Below w8.heap.size w8 w8.drew := (Below.refl _ _).drew
      refine wp_region_held_drew (S := fun w' => w'.rangeAt w4.heap.size 0 (hashL D)) (by kernel_rfl) (H8.out.1.below bd).range ?_
      intro hS
      change wpAnyH _ _ _ _ _ 16 _ _ _
      refine wpAnyH_take (i := 0) (v := ?_) (by simp only [List.getElem?_toArray, List.getElem?_cons_zero]; rfl) (by kernel_rfl) (by kernel_rfl) (by kernel_rfl) (by exact fun _ _ _ h => h) (Or.inl ⟨by rfl, ?_⟩) hS ?_
      rotate_left
      · intro w' _
        go_simp
        try with_reducible rfl
      refine wpAnyH_take (i := 1) (v := ?_) (by simp only [List.getElem?_toArray, List.getElem?_cons_zero, List.getElem?_cons_succ]; rfl) (by kernel_rfl) (by kernel_rfl) (by kernel_rfl) (by exact fun _ _ _ h => h) (Or.inl ⟨by rfl, ?_⟩) hS ?_
      rotate_left
      · intro w' _
        go_simp
        try with_reducible rfl
      refine wpAnyH_take (i := 2) (v := ?_) (by simp only [List.getElem?_toArray, List.getElem?_cons_zero, List.getElem?_cons_succ]; rfl) (by kernel_rfl) (by kernel_rfl) (by kernel_rfl) (by exact fun _ _ _ h => h) (Or.inl ⟨by rfl, ?_⟩) hS ?_
      rotate_left
      · intro w' _
        go_simp
        try with_reducible rfl
      refine wpAnyH_take (i := 3) (v := ?_) (by simp only [List.getElem?_toArray, List.getElem?_cons_zero, List.getElem?_cons_succ]; rfl) (by kernel_rfl) (by kernel_rfl) (by kernel_rfl) (by exact fun _ _ _ h => h) (Or.inl ⟨by rfl, ?_⟩) hS ?_
      rotate_left
      · intro w' _
        go_simp
        try with_reducible rfl
      refine wpAnyH_take (i := 4) (v := undef) (by simp only [List.getElem?_toArray, List.getElem?_cons_zero, List.getElem?_cons_succ]; rfl) (by kernel_rfl) (by kernel_rfl) (by kernel_rfl) (by exact fun _ _ _ h => h) (Or.inr ⟨by kernel_rfl, rfl⟩) hS ?_
      refine wpAnyH_take (i := 5) (v := undef) (by simp only [List.getElem?_toArray, List.getElem?_cons_zero, List.getElem?_cons_succ]; rfl) (by kernel_rfl) (by kernel_rfl) (by kernel_rfl) (by exact fun _ _ _ h => h) (Or.inr ⟨by kernel_rfl, rfl⟩) hS ?_
      refine wpAnyH_take (i := 6) (v := undef) (by simp only [List.getElem?_toArray, List.getElem?_cons_zero, List.getElem?_cons_succ]; rfl) (by kernel_rfl) (by kernel_rfl) (by kernel_rfl) (by exact fun _ _ _ h => h) (Or.inr ⟨by kernel_rfl, rfl⟩) hS ?_
      refine wpAnyH_take (i := 7) (v := undef) (by simp only [List.getElem?_toArray, List.getElem?_cons_zero, List.getElem?_cons_succ]; rfl) (by kernel_rfl) (by kernel_rfl) (by kernel_rfl) (by exact fun _ _ _ h => h) (Or.inr ⟨by kernel_rfl, rfl⟩) hS ?_
      refine wpAnyH_take (i := 8) (v := undef) (by simp only [List.getElem?_toArray, List.getElem?_cons_zero, List.getElem?_cons_succ]; rfl) (by kernel_rfl) (by kernel_rfl) (by kernel_rfl) (by exact fun _ _ _ h => h) (Or.inr ⟨by kernel_rfl, rfl⟩) hS ?_
      refine wpAnyH_take (i := 9) (v := undef) (by simp only [List.getElem?_toArray, List.getElem?_cons_zero, List.getElem?_cons_succ]; rfl) (by kernel_rfl) (by kernel_rfl) (by kernel_rfl) (by exact fun _ _ _ h => h) (Or.inr ⟨by kernel_rfl, rfl⟩) hS ?_
      refine wpAnyH_take (i := 10) (v := undef) (by simp only [List.getElem?_toArray, List.getElem?_cons_zero, List.getElem?_cons_succ]; rfl) (by kernel_rfl) (by kernel_rfl) (by kernel_rfl) (by exact fun _ _ _ h => h) (Or.inr ⟨by kernel_rfl, rfl⟩) hS ?_
      refine wpAnyH_take (i := 11) (v := undef) (by simp only [List.getElem?_toArray, List.getElem?_cons_zero, List.getElem?_cons_succ]; rfl) (by kernel_rfl) (by kernel_rfl) (by kernel_rfl) (by exact fun _ _ _ h => h) (Or.inr ⟨by kernel_rfl, rfl⟩) hS ?_
      refine wpAnyH_take (i := 12) (v := undef) (by simp only [List.getElem?_toArray, List.getElem?_cons_zero, List.getElem?_cons_succ]; rfl) (by kernel_rfl) (by kernel_rfl) (by kernel_rfl) (by exact fun _ _ _ h => h) (Or.inr ⟨by kernel_rfl, rfl⟩) hS ?_
      refine wpAnyH_take (i := 13) (v := undef) (by simp only [List.getElem?_toArray, List.getElem?_cons_zero, List.getElem?_cons_succ]; rfl) (by kernel_rfl) (by kernel_rfl) (by kernel_rfl) (by exact fun _ _ _ h => h) (Or.inr ⟨by kernel_rfl, rfl⟩) hS ?_
      simp only [Act.put, List.setIfInBounds_toArray, List.set_cons_zero, List.set_cons_succ]
      refine wpAnyH_take (i := 14) (v := ?_) (by simp only [List.getElem?_toArray, List.getElem?_cons_zero, List.getElem?_cons_succ]; rfl) (by kernel_rfl) (by kernel_rfl) (by kernel_rfl) (by exact fun _ _ _ h => h) (Or.inl ⟨by rfl, ?_⟩) hS ?_
      rotate_left
      · intro w' _
        go_simp
        try with_reducible rfl
      refine wpAnyH_take (i := 15) (v := ?_) (by simp only [List.getElem?_toArray, List.getElem?_cons_zero, List.getElem?_cons_succ]; rfl) (by kernel_rfl) (by kernel_rfl) (by kernel_rfl) (by exact fun _ _ _ h => h) (Or.inl ⟨by rfl, ?_⟩) hS ?_
      rotate_left
      · intro w' _
        go_simp
        try with_reducible rfl
      refine wpAnyH_done (by kernel_rfl) ?_ _
      have HF : Hid (Below W.heap.size W w8.drew) := H8.out.2.drew
      clear hS bd H8
      go_wp2_with fail
      go_ret
      exact ⟨rfl, HF.out⟩
    · have hn64 : n < 64 := by omega
      have q1 : ¬ (64 : Int) < (n : Int) := by omega
      have q2 : ¬ (n : Int) = 64 := by omega
      have q3 : ¬ n = 64 := e64
      clear e64 hn
      go_wp2_with fail
      have bel0 : Hid (Below w8.heap.size w8 w8.drew) := (Below.refl _ _).drew
      refine wp_region_held_drew (S := fun w' => w'.rangeAt w4.heap.size 0 (hashL D)) (by kernel_rfl) (H8.out.1.below bel0.out).range ?_
      intro hS
      change wpAnyH _ _ _ _ _ 16 _ _ _
      generalize w8.drew = ws at hS bel0 ⊢
      refine wpAnyH_take (i := 0) (v := ?_) (by simp only [List.getElem?_toArray, List.getElem?_cons_zero]; rfl) (by kernel_rfl) (by kernel_rfl) (by kernel_rfl) (by exact fun _ _ _ h => h) (Or.inl ⟨by rfl, ?_⟩) hS ?_
      rotate_left
      · intro w' _
        go_simp
        try with_reducible rfl
      refine wpAnyH_take (i := 1) (v := ?_) (by simp only [List.getElem?_toArray, List.getElem?_cons_zero, List.getElem?_cons_succ]; rfl) (by kernel_rfl) (by kernel_rfl) (by kernel_rfl) (by exact fun _ _ _ h => h) (Or.inl ⟨by rfl, ?_⟩) hS ?_
      rotate_left
      · intro w' _
        go_simp
        try with_reducible rfl
      refine wpAnyH_take (i := 2) (v := .bool false) (by simp only [List.getElem?_toArray, List.getElem?_cons_zero, List.getElem?_cons_succ]; rfl) (by kernel_rfl) (by kernel_rfl) (by kernel_rfl) (by exact fun _ _ _ h => h) (Or.inl ⟨by rfl, ?_⟩) hS ?_
      · intro w' _
        go_simp
        try with_reducible rfl
      refine wpAnyH_take (i := 3) (v := .bool false) (by simp only [List.getElem?_toArray, List.getElem?_cons_zero, List.getElem?_cons_succ]; rfl) (by kernel_rfl) (by kernel_rfl) (by kernel_rfl) (by exact fun _ _ _ h => h) (Or.inl ⟨by rfl, ?_⟩) hS ?_
      · intro w' _
        go_simp
        try with_reducible rfl
      refine wpAnyH_take (i := 4) (by simp only [List.getElem?_toArray, List.getElem?_cons_zero, List.getElem?_cons_succ]; rfl) (by kernel_rfl) (by kernel_rfl) (by kernel_rfl) (by exact fun _ _ _ h => h) (yieldsIf_load_mid (by kernel_rfl) _ _ rfl _ _ rfl _ _ (fun _ h => h) Tryd.underlying24 rfl (hashL_len _)) hS ?_
      refine wpAnyH_take (i := 6) (v := ?_) (by simp only [List.getElem?_toArray, List.getElem?_cons_zero, List.getElem?_cons_succ]; rfl) (by kernel_rfl) (by kernel_rfl) (by kernel_rfl) (by exact fun _ _ _ h => h) (Or.inl ⟨by kernel_rfl, ?_⟩) hS ?_
      rotate_left
      · intro w' _
        go_simp
        try with_reducible rfl
      refine wpAnyH_take (i := 10) (v := ?_) (by simp only [List.getElem?_toArray, List.getElem?_cons_zero, List.getElem?_cons_succ]; rfl) (by kernel_rfl) (by kernel_rfl) (by kernel_rfl) (by exact fun _ _ _ h => h) (Or.inl ⟨by kernel_rfl, ?_⟩) hS ?_
      rotate_left
      · intro w' _
        go_simp
        try with_reducible rfl
      refine wpAnyH_ready (rs := [5, 8, 11]) (by kernel_rfl) (by simp) ?_
      refine AllReadyH.cons (by simp only [List.getElem?_toArray, List.getElem?_cons_zero, List.getElem?_cons_succ]; rfl) (fun K' hK => ?_) (AllReadyH.cons (by simp only [List.getElem?_toArray, List.getElem?_cons_zero, List.getElem?_cons_succ]; rfl) (fun K' hK => ?_) (AllReadyH.cons (by simp only [List.getElem?_toArray, List.getElem?_cons_zero, List.getElem?_cons_succ]; rfl) (fun K' hK => ?_) AllReadyH.nil))
      · go_simp
        have bA : Below ws.heap.size ws (ws.alloc (.cells #[] 5)) := (Below.refl _ _).alloc (Nat.le_refl _) _
        have bel2 : Hid (Below w8.heap.size w8 (ws.alloc (.cells #[] 5))) := ch bel0.out bA
        have o5_3 := World.ownsRow_lit (base := w8.heap.size) (e := 5) (size := 1) ws #[] 0 bel0.out.size (by decide) rfl
        refine hK.out _ _ (H8.out.1.below bel2.out).range (fun hS => ?_)
        clear hK K' bA bel0
        obtain ⟨cu1, hcu⟩ : ∃ x, x = ws.alloc (.cells #[] 5) := ⟨_, rfl⟩
        rw [← hcu] at hS bel2 o5_3 ⊢
        clear hcu
        refine wpAnyH_ready (rs := [7, 8, 11]) (by kernel_rfl) (by simp) ?_
        refine AllReadyH.cons (by simp only [List.getElem?_toArray, List.getElem?_cons_zero, List.getElem?_cons_succ]; rfl) (fun K' hK => ?_) (AllReadyH.cons (by simp only [List.getElem?_toArray, List.getElem?_cons_zero, List.getElem?_cons_succ]; rfl) (fun K' hK => ?_) (AllReadyH.cons (by simp only [List.getElem?_toArray, List.getElem?_cons_zero, List.getElem?_cons_succ]; rfl) (fun K' hK => ?_) AllReadyH.nil))
        · rw [if_pos (by kernel_rfl)]
          refine wp_append_bytes (.tmp 45) (.tmp 46) (by rfl) w8.heap.size _ 0 [] (by rfl) o5_3 Sa sb so n sc _ (by rfl) (HA.out.1.below (ch H8.out.2 bel2.out)) hSn (by omega) bel2.out.size ?_
          intro v5 cu4 own6 gr7 nn8
          have bel9 : Hid (Below w8.heap.size w8 cu4) := bel2.out.trans (grown_below gr7 o5_3 (Nat.le_refl _) bel2.out.size)
          replace own6 : cu4.ownsRow w8.heap.size 5 1 v5 n (vals (fun i => (S i : Int)) n) := by simpa using own6
          obtain ⟨g7_10, c7_11, rfl, hc12, _, _⟩ := own_some own6 (fun e => by have := nn8 e; simp at this)
          refine hK.out _ _ (H8.out.1.below bel9.out).range (fun hS => ?_)
          clear hK K' bel2 o5_3 gr7 nn8
          refine wpAnyH_ready (rs := [8, 11]) (by kernel_rfl) (by simp) ?_
          refine AllReadyH.cons (by simp only [List.getElem?_toArray, List.getElem?_cons_zero, List.getElem?_cons_succ]; rfl) (fun K' hK => ?_) (AllReadyH.cons (by simp only [List.getElem?_toArray, List.getElem?_cons_zero, List.getElem?_cons_succ]; rfl) (fun K' hK => ?_) AllReadyH.nil)
          · go_simp
            have bA : Below cu4.heap.size cu4 (cu4.alloc (.cells #[.int .u8 0] 5)) := (Below.refl _ _).alloc (Nat.le_refl _) _
            have bel14 : Hid (Below w8.heap.size w8 (cu4.alloc (.cells #[.int .u8 0] 5))) := ch bel9.out bA
            have o7_15 := own6.alloc (.cells #[.int .u8 0] 5)
            have v8_16 : View (cu4.alloc (.cells #[.int .u8 0] 5)) (some ⟨cu4.heap.size, 0, none⟩) cu4.heap.size 0 1 (fun _ => ((0 : Nat) : Int)) := view_new1 cu4 0 (by decide) (by decide)
            refine hK.out _ _ (H8.out.1.below bel14.out).range (fun hS => ?_)
            clear hK K' bA bel9 own6
            obtain ⟨cu13, hcu⟩ : ∃ x, x = cu4.alloc (.cells #[.int .u8 0] 5) := ⟨_, rfl⟩
            rw [← hcu] at hS bel14 o7_15 v8_16 ⊢
            clear hcu
            refine wpAnyH_ready (rs := [9, 11]) (by kernel_rfl) (by simp) ?_
            refine AllReadyH.cons (by simp only [List.getElem?_toArray, List.getElem?_cons_zero, List.getElem?_cons_succ]; rfl) (fun K' hK => ?_) (AllReadyH.cons (by simp only [List.getElem?_toArray, List.getElem?_cons_zero, List.getElem?_cons_succ]; rfl) (fun K' hK => ?_) AllReadyH.nil)
            · rw [if_pos (by kernel_rfl)]
              refine wp_append_bytes (.tmp 47) (.tmp 48) (by rfl) w8.heap.size _ n _ (by rfl) o7_15 (some ⟨cu4.heap.size, 0, none⟩) cu4.heap.size 0 1 1 _ (by rfl) v8_16 (fun h => by cases h) (by omega) bel14.out.size ?_
              intro v18 cu17 own19 gr20 nn21
              have bel22 : Hid (Below w8.heap.size w8 cu17) := bel14.out.trans (grown_below gr20 o7_15 (Nat.le_refl _) bel14.out.size)
              rw [vals_cat2] at own19
              obtain ⟨g9_23, c9_24, rfl, hc25, _, _⟩ := own_some own19 (fun e => by have := nn21 e; cases this)
              have v9_26 := own_vw own19 (fun i _ => by have := cat_lt (n := n) HS.out (fun _ => (by decide : 0 < 256)) i; omega) (by omega)
              refine hK.out _ _ (H8.out.1.below bel22.out).range (fun hS => ?_)
              clear hK K' bel14 o7_15 v8_16 gr20 nn21 own19
              refine wpAnyH_ready (rs := [11]) (by kernel_rfl) (by simp) ?_
              refine AllReadyH.cons (by simp only [List.getElem?_toArray, List.getElem?_cons_zero, List.getElem?_cons_succ]; rfl) (fun K' hK => ?_) AllReadyH.nil
              go_simp
              have bA : Below cu17.heap.size cu17 (cu17.alloc (.cells #[.slice ma m mc] 22)) := (Below.refl _ _).alloc (Nat.le_refl _) _
              have bel28 : Hid (Below w8.heap.size w8 (cu17.alloc (.cells #[.slice ma m mc] 22))) := ch bel22.out bA
              have v9_29 := v9_26.below bA
              have pr30 : (cu17.alloc (.cells #[.slice ma m mc] 22)).heap[cu17.heap.size]? = some (.cells #[.slice ma m mc] 22 (0, 0)) := heap_alloc_new _ _
              refine hK.out _ _ (H8.out.1.below bel28.out).range (fun hS => ?_)
              clear hK K' bA bel22 v9_26
              obtain ⟨cu27, hcu⟩ : ∃ x, x = cu17.alloc (.cells #[.slice ma m mc] 22) := ⟨_, rfl⟩
              rw [← hcu] at hS bel28 v9_29 pr30 ⊢
              clear hcu
              refine wpAnyH_ready (rs := [12]) (by kernel_rfl) (by simp) ?_
              refine AllReadyH.cons (by simp only [List.getElem?_toArray, List.getElem?_cons_zero, List.getElem?_cons_succ]; rfl) (fun K' hK => ?_) AllReadyH.nil
              have bw := ch H8.out.2 bel28.out
              have pp := parts_at pr30 (HA.out.2.1.below bw) hmc HX.out
              have cm := mcodes_any _ (some ⟨g9_23, 0, none⟩) g9_23 0 (n + 1) c9_24 (cat n S (fun _ => 0)) v9_29 hc25 (cat_lt HS.out (fun _ => (by decide : 0 < 256))) _ _ _ 1 1 _ _ _ _ _ _ pp (HA.out.2.2.below bw) (by omega) (by rw [tot_one]; omega)
              rw [tot_one, blk_zero hn64, hmac_same (Y := X) (fun i _ => by simp [jn, cat, tot]), ← HD.out] at cm
              rw [if_pos (by kernel_rfl)]
              go_simp
              refine cm.mono ?_
              rintro _ wz ⟨rfl, hbz⟩
              have HZ : Hid (Below w8.heap.size w8 wz) := ch bel28.out hbz
              refine hK.out _ _ (H8.out.1.below HZ.out).range (fun hS => ?_)
              clear hK K' hbz cm pp bw
              refine wpAnyH_take (i := 13) (v := ?_) (by simp only [List.getElem?_toArray, List.getElem?_cons_zero, List.getElem?_cons_succ]; rfl) (by kernel_rfl) (by kernel_rfl) (by kernel_rfl) (by exact fun _ _ _ h => h) (Or.inl ⟨by kernel_rfl, ?_⟩) hS ?_
              rotate_left
              · intro w' _
                go_simp
                try with_reducible rfl
              refine wpAnyH_take (i := 14) (v := ?_) (by simp only [List.getElem?_toArray, List.getElem?_cons_zero, List.getElem?_cons_succ]; rfl) (by kernel_rfl) (by kernel_rfl) (by kernel_rfl) (by exact fun _ _ _ h => h) (Or.inl ⟨by rfl, ?_⟩) hS ?_
              rotate_left
              · intro w' _
                go_simp
                try with_reducible rfl
              refine wpAnyH_take (i := 15) (v := ?_) (by simp only [List.getElem?_toArray, List.getElem?_cons_zero, List.getElem?_cons_succ]; rfl) (by kernel_rfl) (by kernel_rfl) (by kernel_rfl) (by exact fun _ _ _ h => h) (Or.inl ⟨by rfl, ?_⟩) hS ?_
              rotate_left
              · intro w' _
                go_simp
                try with_reducible rfl
              refine wpAnyH_done (by kernel_rfl) ?_ _
              have HF : Hid (Below W.heap.size W wz) := ch H8.out.2 HZ.out
              clear hS HZ
              go_wp2_with fail
              go_ret
              exact ⟨rfl, HF.out⟩
            · go_simp
              have bA : Below cu13.heap.size cu13 (cu13.alloc (.cells #[.slice ma m mc] 22)) := (Below.refl _ _).alloc (Nat.le_refl _) _
              have bel32 : Hid (Below w8.heap.size w8 (cu13.alloc (.cells #[.slice ma m mc] 22))) := ch bel14.out bA
              have o7_33 := o7_15.alloc (.cells #[.slice ma m mc] 22)
              have v8_34 := v8_16.below bA
              have pr35 : (cu13.alloc (.cells #[.slice ma m mc] 22)).heap[cu13.heap.size]? = some (.cells #[.slice ma m mc] 22 (0, 0)) := heap_alloc_new _ _
              refine hK.out _ _ (H8.out.1.below bel32.out).range (fun hS => ?_)
              clear hK K' bA bel14 o7_15 v8_16
              obtain ⟨cu31, hcu⟩ : ∃ x, x = cu13.alloc (.cells #[.slice ma m mc] 22) := ⟨_, rfl⟩
              rw [← hcu] at hS bel32 o7_33 v8_34 pr35 ⊢
              clear hcu
              refine wpAnyH_ready (rs := [9]) (by kernel_rfl) (by simp) ?_
              refine AllReadyH.cons (by simp only [List.getElem?_toArray, List.getElem?_cons_zero, List.getElem?_cons_succ]; rfl) (fun K' hK => ?_) AllReadyH.nil
              rw [if_pos (by kernel_rfl)]
              refine wp_append_bytes (.tmp 47) (.tmp 48) (by rfl) w8.heap.size _ n _ (by rfl) o7_33 (some ⟨cu4.heap.size, 0, none⟩) cu4.heap.size 0 1 1 _ (by rfl) v8_34 (fun h => by cases h) (by omega) bel32.out.size ?_
              intro v37 cu36 own38 gr39 nn40
              have bel41 : Hid (Below w8.heap.size w8 cu36) := bel32.out.trans (grown_below gr39 o7_33 (Nat.le_refl _) bel32.out.size)
              have pr42 := (gr39.block _ (lt_of_some pr35) (fun e => own_ne_list o7_33 pr35 e.symm)).trans pr35
              rw [vals_cat2] at own38
              obtain ⟨g9_43, c9_44, rfl, hc45, _, _⟩ := own_some own38 (fun e => by have := nn40 e; cases this)
              have v9_46 := own_vw own38 (fun i _ => by have := cat_lt (n := n) HS.out (fun _ => (by decide : 0 < 256)) i; omega) (by omega)
              refine hK.out _ _ (H8.out.1.below bel41.out).range (fun hS => ?_)
              clear hK K' bel32 o7_33 v8_34 pr35 gr39 nn40 own38
              refine wpAnyH_ready (rs := [12]) (by kernel_rfl) (by simp) ?_
              refine AllReadyH.cons (by simp only [List.getElem?_toArray, List.getElem?_cons_zero, List.getElem?_cons_succ]; rfl) (fun K' hK => ?_) AllReadyH.nil
              have bw := ch H8.out.2 bel41.out
              have pp := parts_at pr42 (HA.out.2.1.below bw) hmc HX.out
              have cm := mcodes_any _ (some ⟨g9_43, 0, none⟩) g9_43 0 (n + 1) c9_44 (cat n S (fun _ => 0)) v9_46 hc45 (cat_lt HS.out (fun _ => (by decide : 0 < 256))) _ _ _ 1 1 _ _ _ _ _ _ pp (HA.out.2.2.below bw) (by omega) (by rw [tot_one]; omega)
              rw [tot_one, blk_zero hn64, hmac_same (Y := X) (fun i _ => by simp [jn, cat, tot]), ← HD.out] at cm
              rw [if_pos (by kernel_rfl)]
              go_simp
              refine cm.mono ?_
              rintro _ wz ⟨rfl, hbz⟩
              have HZ : Hid (Below w8.heap.size w8 wz) := ch bel41.out hbz
              refine hK.out _ _ (H8.out.1.below HZ.out).range (fun hS => ?_)
              clear hK K' hbz cm pp bw
              refine wpAnyH_take (i := 13) (v := ?_) (by simp only [List.getElem?_toArray, List.getElem?_cons_zero, List.getElem?_cons_succ]; rfl) (by kernel_rfl) (by kernel_rfl) (by kernel_rfl) (by exact fun _ _ _ h => h) (Or.inl ⟨by kernel_rfl, ?_⟩) hS ?_
              rotate_left
              · intro w' _
                go_simp
                try with_reducible rfl
              refine wpAnyH_take (i := 14) (v := ?_) (by simp only [List.getElem?_toArray, List.getElem?_cons_zero, List.getElem?_cons_succ]; rfl) (by kernel_rfl) (by kernel_rfl) (by kernel_rfl) (by exact fun _ _ _ h => h) (Or.inl ⟨by rfl, ?_⟩) hS ?_
              rotate_left
              · intro w' _
                go_simp
                try with_reducible rfl
              refine wpAnyH_take (i := 15) (v := ?_) (by simp only [List.getElem?_toArray, List.getElem?_cons_zero, List.getElem?_cons_succ]; rfl) (by kernel_rfl) (by kernel_rfl) (by kernel_rfl) (by exact fun _ _ _ h => h) (Or.inl ⟨by rfl, ?_⟩) hS ?_
              rotate_left
              · intro w' _
                go_simp
                try with_reducible rfl
              refine wpAnyH_done (by kernel_rfl) ?_ _
              have HF : Hid (Below W.heap.size W wz) := ch H8.out.2 HZ.out
              clear hS HZ
              go_wp2_with fail
              go_ret
              exact ⟨rfl, HF.out⟩
          · go_simp
            have bA : Below cu4.heap.size cu4 (cu4.alloc (.cells #[.slice ma m mc] 22)) := (Below.refl _ _).alloc (Nat.le_refl _) _
            have bel48 : Hid (Below w8.heap.size w8 (cu4.alloc (.cells #[.slice ma m mc] 22))) := ch bel9.out bA
            have o7_49 := own6.alloc (.cells #[.slice ma m mc] 22)
            have pr50 : (cu4.alloc (.cells #[.slice ma m mc] 22)).heap[cu4.heap.size]? = some (.cells #[.slice ma m mc] 22 (0, 0)) := heap_alloc_new _ _
            refine hK.out _ _ (H8.out.1.below bel48.out).range (fun hS => ?_)
            clear hK K' bA bel9 own6
            obtain ⟨cu47, hcu⟩ : ∃ x, x = cu4.alloc (.cells #[.slice ma m mc] 22) := ⟨_, rfl⟩
            rw [← hcu] at hS bel48 o7_49 pr50 ⊢
            clear hcu
            refine wpAnyH_ready (rs := [8]) (by kernel_rfl) (by simp) ?_
            refine AllReadyH.cons (by simp only [List.getElem?_toArray, List.getElem?_cons_zero, List.getElem?_cons_succ]; rfl) (fun K' hK => ?_) AllReadyH.nil
            go_simp
            have bA : Below cu47.heap.size cu47 (cu47.alloc (.cells #[.int .u8 0] 5)) := (Below.refl _ _).alloc (Nat.le_refl _) _
            have bel52 : Hid (Below w8.heap.size w8 (cu47.alloc (.cells #[.int .u8 0] 5))) := ch bel48.out bA
            have o7_53 := o7_49.alloc (.cells #[.int .u8 0] 5)
            have pr54 := (bA.block _ (lt_of_some pr50)).trans pr50
            have v8_55 : View (cu47.alloc (.cells #[.int .u8 0] 5)) (some ⟨cu47.heap.size, 0, none⟩) cu47.heap.size 0 1 (fun _ => ((0 : Nat) : Int)) := view_new1 cu47 0 (by decide) (by decide)
            refine hK.out _ _ (H8.out.1.below bel52.out).range (fun hS => ?_)
            clear hK K' bA bel48 o7_49 pr50
            obtain ⟨cu51, hcu⟩ : ∃ x, x = cu47.alloc (.cells #[.int .u8 0] 5) := ⟨_, rfl⟩
            rw [← hcu] at hS bel52 o7_53 v8_55 pr54 ⊢
            clear hcu
            refine wpAnyH_ready (rs := [9]) (by kernel_rfl) (by simp) ?_
            refine AllReadyH.cons (by simp only [List.getElem?_toArray, List.getElem?_cons_zero, List.getElem?_cons_succ]; rfl) (fun K' hK => ?_) AllReadyH.nil
            rw [if_pos (by kernel_rfl)]
            refine wp_append_bytes (.tmp 47) (.tmp 48) (by rfl) w8.heap.size _ n _ (by rfl) o7_53 (some ⟨cu47.heap.size, 0, none⟩) cu47.heap.size 0 1 1 _ (by rfl) v8_55 (fun h => by cases h) (by omega) bel52.out.size ?_
            intro v57 cu56 own58 gr59 nn60
            have bel61 : Hid (Below w8.heap.size w8 cu56) := bel52.out.trans (grown_below gr59 o7_53 (Nat.le_refl _) bel52.out.size)
            have pr62 := (gr59.block _ (lt_of_some pr54) (fun e => own_ne_list o7_53 pr54 e.symm)).trans pr54
            rw [vals_cat2] at own58
            obtain ⟨g9_63, c9_64, rfl, hc65, _, _⟩ := own_some own58 (fun e => by have := nn60 e; cases this)
            have v9_66 := own_vw own58 (fun i _ => by have := cat_lt (n := n) HS.out (fun _ => (by decide : 0 < 256)) i; omega) (by omega)
            refine hK.out _ _ (H8.out.1.below bel61.out).range (fun hS => ?_)
            clear hK K' bel52 o7_53 v8_55 pr54 gr59 nn60 own58
            refine wpAnyH_ready (rs := [12]) (by kernel_rfl) (by simp) ?_
            refine AllReadyH.cons (by simp only [List.getElem?_toArray, List.getElem?_cons_zero, List.getElem?_cons_succ]; rfl) (fun K' hK => ?_) AllReadyH.nil
            have bw := ch H8.out.2 bel61.out
            have pp := parts_at pr62 (HA.out.2.1.below bw) hmc HX.out
            have cm := mcodes_any _ (some ⟨g9_63, 0, none⟩) g9_63 0 (n + 1) c9_64 (cat n S (fun _ => 0)) v9_66 hc65 (cat_lt HS.out (fun _ => (by decide : 0 < 256))) _ _ _ 1 1 _ _ _ _ _ _ pp (HA.out.2.2.below bw) (by omega) (by rw [tot_one]; omega)
            rw [tot_one, blk_zero hn64, hmac_same (Y := X) (fun i _ => by simp [jn, cat, tot]), ← HD.out] at cm
            rw [if_pos (by kernel_rfl)]
            go_simp
            refine cm.mono ?_
            rintro _ wz ⟨rfl, hbz⟩
            have HZ : Hid (Below w8.heap.size w8 wz) := ch bel61.out hbz
            refine hK.out _ _ (H8.out.1.below HZ.out).range (fun hS => ?_)
            clear hK K' hbz cm pp bw
            refine wpAnyH_take (i := 13) (v := ?_) (by simp only [List.getElem?_toArray, List.getElem?_cons_zero, List.getElem?_cons_succ]; rfl) (by kernel_rfl) (by kernel_rfl) (by kernel_rfl) (by exact fun _ _ _ h => h) (Or.inl ⟨by kernel_rfl, ?_⟩) hS ?_
            rotate_left
            · intro w' _
              go_simp
              try with_reducible rfl
            refine wpAnyH_take (i := 14) (v := ?_) (by simp only [List.getElem?_toArray, List.getElem?_cons_zero, List.getElem?_cons_succ]; rfl) (by kernel_rfl) (by kernel_rfl) (by kernel_rfl) (by exact fun _ _ _ h => h) (Or.inl ⟨by rfl, ?_⟩) hS ?_
            rotate_left
            · intro w' _
              go_simp
              try with_reducible rfl
            refine wpAnyH_take (i := 15) (v := ?_) (by simp only [List.getElem?_toArray, List.getElem?_cons_zero, List.getElem?_cons_succ]; rfl) (by kernel_rfl) (by kernel_rfl) (by kernel_rfl) (by exact fun _ _ _ h => h) (Or.inl ⟨by rfl, ?_⟩) hS ?_
            rotate_left
            · intro w' _
              go_simp
              try with_reducible rfl
            refine wpAnyH_done (by kernel_rfl) ?_ _
            have HF : Hid (Below W.heap.size W wz) := ch H8.out.2 HZ.out
            clear hS HZ
            go_wp2_with fail
            go_ret
            exact ⟨rfl, HF.out⟩
        · go_simp
          have bA : Below cu1.heap.size cu1 (cu1.alloc (.cells #[.int .u8 0] 5)) := (Below.refl _ _).alloc (Nat.le_refl _) _
          have bel68 : Hid (Below w8.heap.size w8 (cu1.alloc (.cells #[.int .u8 0] 5))) := ch bel2.out bA
          have o5_69 := o5_3.alloc (.cells #[.int .u8 0] 5)
          have v8_70 : View (cu1.alloc (.cells #[.int .u8 0] 5)) (some ⟨cu1.heap.size, 0, none⟩) cu1.heap.size 0 1 (fun _ => ((0 : Nat) : Int)) := view_new1 cu1 0 (by decide) (by decide)
          have ne71 : cu1.heap.size ≠ ws.heap.size := by have := (o5_3.lt _ rfl).2; dsimp only at this; omega
          refine hK.out _ _ (H8.out.1.below bel68.out).range (fun hS => ?_)
          clear hK K' bA bel2 o5_3
          obtain ⟨cu67, hcu⟩ : ∃ x, x = cu1.alloc (.cells #[.int .u8 0] 5) := ⟨_, rfl⟩
          rw [← hcu] at hS bel68 o5_69 v8_70 ⊢
          clear hcu
          refine wpAnyH_ready (rs := [7, 11]) (by kernel_rfl) (by simp) ?_
          refine AllReadyH.cons (by simp only [List.getElem?_toArray, List.getElem?_cons_zero, List.getElem?_cons_succ]; rfl) (fun K' hK => ?_) (AllReadyH.cons (by simp only [List.getElem?_toArray, List.getElem?_cons_zero, List.getElem?_cons_succ]; rfl) (fun K' hK => ?_) AllReadyH.nil)
          · rw [if_pos (by kernel_rfl)]
            refine wp_append_bytes (.tmp 45) (.tmp 46) (by rfl) w8.heap.size _ 0 [] (by rfl) o5_69 Sa sb so n sc _ (by rfl) (HA.out.1.below (ch H8.out.2 bel68.out)) hSn (by omega) bel68.out.size ?_
            intro v73 cu72 own74 gr75 nn76
            have bel77 : Hid (Below w8.heap.size w8 cu72) := bel68.out.trans (grown_below gr75 o5_69 (Nat.le_refl _) bel68.out.size)
            have v8_78 := v8_70.of_b (fun _ => gr75.block _ (v8_70.lt (by omega)) (fun e => ne71 (by injection e)))
            replace own74 : cu72.ownsRow w8.heap.size 5 1 v73 n (vals (fun i => (S i : Int)) n) := by simpa using own74
            obtain ⟨g7_79, c7_80, rfl, hc81, _, _⟩ := own_some own74 (fun e => by have := nn76 e; simp at this)
            refine hK.out _ _ (H8.out.1.below bel77.out).range (fun hS => ?_)
            clear hK K' bel68 o5_69 v8_70 gr75 nn76
            refine wpAnyH_ready (rs := [9, 11]) (by kernel_rfl) (by simp) ?_
            refine AllReadyH.cons (by simp only [List.getElem?_toArray, List.getElem?_cons_zero, List.getElem?_cons_succ]; rfl) (fun K' hK => ?_) (AllReadyH.cons (by simp only [List.getElem?_toArray, List.getElem?_cons_zero, List.getElem?_cons_succ]; rfl) (fun K' hK => ?_) AllReadyH.nil)
            · rw [if_pos (by kernel_rfl)]
              refine wp_append_bytes (.tmp 47) (.tmp 48) (by rfl) w8.heap.size _ n _ (by rfl) own74 (some ⟨cu1.heap.size, 0, none⟩) cu1.heap.size 0 1 1 _ (by rfl) v8_78 (fun h => by cases h) (by omega) bel77.out.size ?_
              intro v83 cu82 own84 gr85 nn86
              have bel87 : Hid (Below w8.heap.size w8 cu82) := bel77.out.trans (grown_below gr85 own74 (Nat.le_refl _) bel77.out.size)
              rw [vals_cat2] at own84
              obtain ⟨g9_88, c9_89, rfl, hc90, _, _⟩ := own_some own84 (fun e => by have := nn86 e; cases this)
              have v9_91 := own_vw own84 (fun i _ => by have := cat_lt (n := n) HS.out (fun _ => (by decide : 0 < 256)) i; omega) (by omega)
              refine hK.out _ _ (H8.out.1.below bel87.out).range (fun hS => ?_)
              clear hK K' bel77 own74 v8_78 gr85 nn86 own84
              refine wpAnyH_ready (rs := [11]) (by kernel_rfl) (by simp) ?_
              refine AllReadyH.cons (by simp only [List.getElem?_toArray, List.getElem?_cons_zero, List.getElem?_cons_succ]; rfl) (fun K' hK => ?_) AllReadyH.nil
              go_simp
              have bA : Below cu82.heap.size cu82 (cu82.alloc (.cells #[.slice ma m mc] 22)) := (Below.refl _ _).alloc (Nat.le_refl _) _
              have bel93 : Hid (Below w8.heap.size w8 (cu82.alloc (.cells #[.slice ma m mc] 22))) := ch bel87.out bA
              have v9_94 := v9_91.below bA
              have pr95 : (cu82.alloc (.cells #[.slice ma m mc] 22)).heap[cu82.heap.size]? = some (.cells #[.slice ma m mc] 22 (0, 0)) := heap_alloc_new _ _
              refine hK.out _ _ (H8.out.1.below bel93.out).range (fun hS => ?_)
              clear hK K' bA bel87 v9_91
              obtain ⟨cu92, hcu⟩ : ∃ x, x = cu82.alloc (.cells #[.slice ma m mc] 22) := ⟨_, rfl⟩
              rw [← hcu] at hS bel93 v9_94 pr95 ⊢
              clear hcu
              refine wpAnyH_ready (rs := [12]) (by kernel_rfl) (by simp) ?_
              refine AllReadyH.cons (by simp only [List.getElem?_toArray, List.getElem?_cons_zero, List.getElem?_cons_succ]; rfl) (fun K' hK => ?_) AllReadyH.nil
              have bw := ch H8.out.2 bel93.out
              have pp := parts_at pr95 (HA.out.2.1.below bw) hmc HX.out
              have cm := mcodes_any _ (some ⟨g9_88, 0, none⟩) g9_88 0 (n + 1) c9_89 (cat n S (fun _ => 0)) v9_94 hc90 (cat_lt HS.out (fun _ => (by decide : 0 < 256))) _ _ _ 1 1 _ _ _ _ _ _ pp (HA.out.2.2.below bw) (by omega) (by rw [tot_one]; omega)
              rw [tot_one, blk_zero hn64, hmac_same (Y := X) (fun i _ => by simp [jn, cat, tot]), ← HD.out] at cm
              rw [if_pos (by kernel_rfl)]
              go_simp
              refine cm.mono ?_
              rintro _ wz ⟨rfl, hbz⟩
              have HZ : Hid (Below w8.heap.size w8 wz) := ch bel93.out hbz
              refine hK.out _ _ (H8.out.1.below HZ.out).range (fun hS => ?_)
              clear hK K' hbz cm pp bw
              refine wpAnyH_take (i := 13) (v := ?_) (by simp only [List.getElem?_toArray, List.getElem?_cons_zero, List.getElem?_cons_succ]; rfl) (by kernel_rfl) (by kernel_rfl) (by kernel_rfl) (by exact fun _ _ _ h => h) (Or.inl ⟨by kernel_rfl, ?_⟩) hS ?_
              rotate_left
              · intro w' _
                go_simp
                try with_reducible rfl
              refine wpAnyH_take (i := 14) (v := ?_) (by simp only [List.getElem?_toArray, List.getElem?_cons_zero, List.getElem?_cons_succ]; rfl) (by kernel_rfl) (by kernel_rfl) (by kernel_rfl) (by exact fun _ _ _ h => h) (Or.inl ⟨by rfl, ?_⟩) hS ?_
              rotate_left
              · intro w' _
                go_simp
                try with_reducible rfl
              refine wpAnyH_take (i := 15) (v := ?_) (by simp only [List.getElem?_toArray, List.getElem?_cons_zero, List.getElem?_cons_succ]; rfl) (by kernel_rfl) (by kernel_rfl) (by kernel_rfl) (by exact fun _ _ _ h => h) (Or.inl ⟨by rfl, ?_⟩) hS ?_
              rotate_left
              · intro w' _
                go_simp
                try with_reducible rfl
              refine wpAnyH_done (by kernel_rfl) ?_ _
              have HF : Hid (Below W.heap.size W wz) := ch H8.out.2 HZ.out
              clear hS HZ
              go_wp2_with fail
              go_ret
              exact ⟨rfl, HF.out⟩
            · go_simp
              have bA : Below cu72.heap.size cu72 (cu72.alloc (.cells #[.slice ma m mc] 22)) := (Below.refl _ _).alloc (Nat.le_refl _) _
              have bel97 : Hid (Below w8.heap.size w8 (cu72.alloc (.cells #[.slice ma m mc] 22))) := ch bel77.out bA
              have o7_98 := own74.alloc (.cells #[.slice ma m mc] 22)
              have v8_99 := v8_78.below bA
              have pr100 : (cu72.alloc (.cells #[.slice ma m mc] 22)).heap[cu72.heap.size]? = some (.cells #[.slice ma m mc] 22 (0, 0)) := heap_alloc_new _ _
              refine hK.out _ _ (H8.out.1.below bel97.out).range (fun hS => ?_)
              clear hK K' bA bel77 own74 v8_78
              obtain ⟨cu96, hcu⟩ : ∃ x, x = cu72.alloc (.cells #[.slice ma m mc] 22) := ⟨_, rfl⟩
              rw [← hcu] at hS bel97 o7_98 v8_99 pr100 ⊢
              clear hcu
              refine wpAnyH_ready (rs := [9]) (by kernel_rfl) (by simp) ?_
              refine AllReadyH.cons (by simp only [List.getElem?_toArray, List.getElem?_cons_zero, List.getElem?_cons_succ]; rfl) (fun K' hK => ?_) AllReadyH.nil
              rw [if_pos (by kernel_rfl)]
              refine wp_append_bytes (.tmp 47) (.tmp 48) (by rfl) w8.heap.size _ n _ (by rfl) o7_98 (some ⟨cu1.heap.size, 0, none⟩) cu1.heap.size 0 1 1 _ (by rfl) v8_99 (fun h => by cases h) (by omega) bel97.out.size ?_
              intro v102 cu101 own103 gr104 nn105
              have bel106 : Hid (Below w8.heap.size w8 cu101) := bel97.out.trans (grown_below gr104 o7_98 (Nat.le_refl _) bel97.out.size)
              have pr107 := (gr104.block _ (lt_of_some pr100) (fun e => own_ne_list o7_98 pr100 e.symm)).trans pr100
              rw [vals_cat2] at own103
              obtain ⟨g9_108, c9_109, rfl, hc110, _, _⟩ := own_some own103 (fun e => by have := nn105 e; cases this)
              have v9_111 := own_vw own103 (fun i _ => by have := cat_lt (n := n) HS.out (fun _ => (by decide : 0 < 256)) i; omega) (by omega)
              refine hK.out _ _ (H8.out.1.below bel106.out).range (fun hS => ?_)
              clear hK K' bel97 o7_98 v8_99 pr100 gr104 nn105 own103
              refine wpAnyH_ready (rs := [12]) (by kernel_rfl) (by simp) ?_
              refine AllReadyH.cons (by simp only [List.getElem?_toArray, List.getElem?_cons_zero, List.getElem?_cons_succ]; rfl) (fun K' hK => ?_) AllReadyH.nil
              have bw := ch H8.out.2 bel106.out
              have pp := parts_at pr107 (HA.out.2.1.below bw) hmc HX.out
              have cm := mcodes_any _ (some ⟨g9_108, 0, none⟩) g9_108 0 (n + 1) c9_109 (cat n S (fun _ => 0)) v9_111 hc110 (cat_lt HS.out (fun _ => (by decide : 0 < 256))) _ _ _ 1 1 _ _ _ _ _ _ pp (HA.out.2.2.below bw) (by omega) (by rw [tot_one]; omega)
              rw [tot_one, blk_zero hn64, hmac_same (Y := X) (fun i _ => by simp [jn, cat, tot]), ← HD.out] at cm
              rw [if_pos (by kernel_rfl)]
              go_simp
              refine cm.mono ?_
              rintro _ wz ⟨rfl, hbz⟩
              have HZ : Hid (Below w8.heap.size w8 wz) := ch bel106.out hbz
              refine hK.out _ _ (H8.out.1.below HZ.out).range (fun hS => ?_)
              clear hK K' hbz cm pp bw
              refine wpAnyH_take (i := 13) (v := ?_) (by simp only [List.getElem?_toArray, List.getElem?_cons_zero, List.getElem?_cons_succ]; rfl) (by kernel_rfl) (by kernel_rfl) (by kernel_rfl) (by exact fun _ _ _ h => h) (Or.inl ⟨by kernel_rfl, ?_⟩) hS ?_
              rotate_left
              · intro w' _
                go_simp
                try with_reducible rfl
              refine wpAnyH_take (i := 14) (v := ?_) (by simp only [List.getElem?_toArray, List.getElem?_cons_zero, List.getElem?_cons_succ]; rfl) (by kernel_rfl) (by kernel_rfl) (by kernel_rfl) (by exact fun _ _ _ h => h) (Or.inl ⟨by rfl, ?_⟩) hS ?_
              rotate_left
              · intro w' _
                go_simp
                try with_reducible rfl
              refine wpAnyH_take (i := 15) (v := ?_) (by simp only [List.getElem?_toArray, List.getElem?_cons_zero, List.getElem?_cons_succ]; rfl) (by kernel_rfl) (by kernel_rfl) (by kernel_rfl) (by exact fun _ _ _ h => h) (Or.inl ⟨by rfl, ?_⟩) hS ?_
              rotate_left
              · intro w' _
                go_simp
                try with_reducible rfl
              refine wpAnyH_done (by kernel_rfl) ?_ _
              have HF : Hid (Below W.heap.size W wz) := ch H8.out.2 HZ.out
              clear hS HZ
              go_wp2_with fail
              go_ret
              exact ⟨rfl, HF.out⟩
          · go_simp
            have bA : Below cu67.heap.size cu67 (cu67.alloc (.cells #[.slice ma m mc] 22)) := (Below.refl _ _).alloc (Nat.le_refl _) _
            have bel113 : Hid (Below w8.heap.size w8 (cu67.alloc (.cells #[.slice ma m mc] 22))) := ch bel68.out bA
            have o5_114 := o5_69.alloc (.cells #[.slice ma m mc] 22)
            have v8_115 := v8_70.below bA
            have pr116 : (cu67.alloc (.cells #[.slice ma m mc] 22)).heap[cu67.heap.size]? = some (.cells #[.slice ma m mc] 22 (0, 0)) := heap_alloc_new _ _
            refine hK.out _ _ (H8.out.1.below bel113.out).range (fun hS => ?_)
            clear hK K' bA bel68 o5_69 v8_70
            obtain ⟨cu112, hcu⟩ : ∃ x, x = cu67.alloc (.cells #[.slice ma m mc] 22) := ⟨_, rfl⟩
            rw [← hcu] at hS bel113 o5_114 v8_115 pr116 ⊢
            clear hcu
            refine wpAnyH_ready (rs := [7]) (by kernel_rfl) (by simp) ?_
            refine AllReadyH.cons (by simp only [List.getElem?_toArray, List.getElem?_cons_zero, List.getElem?_cons_succ]; rfl) (fun K' hK => ?_) AllReadyH.nil
            rw [if_pos (by kernel_rfl)]
            refine wp_append_bytes (.tmp 45) (.tmp 46) (by rfl) w8.heap.size _ 0 [] (by rfl) o5_114 Sa sb so n sc _ (by rfl) (HA.out.1.below (ch H8.out.2 bel113.out)) hSn (by omega) bel113.out.size ?_
            intro v118 cu117 own119 gr120 nn121
            have bel122 : Hid (Below w8.heap.size w8 cu117) := bel113.out.trans (grown_below gr120 o5_114 (Nat.le_refl _) bel113.out.size)
            have pr123 := (gr120.block _ (lt_of_some pr116) (fun e => own_ne_list o5_114 pr116 e.symm)).trans pr116
            have v8_124 := v8_115.of_b (fun _ => gr120.block _ (v8_115.lt (by omega)) (fun e => ne71 (by injection e)))
            replace own119 : cu117.ownsRow w8.heap.size 5 1 v118 n (vals (fun i => (S i : Int)) n) := by simpa using own119
            obtain ⟨g7_125, c7_126, rfl, hc127, _, _⟩ := own_some own119 (fun e => by have := nn121 e; simp at this)
            refine hK.out _ _ (H8.out.1.below bel122.out).range (fun hS => ?_)
            clear hK K' bel113 o5_114 v8_115 pr116 gr120 nn121
            refine wpAnyH_ready (rs := [9]) (by kernel_rfl) (by simp) ?_
            refine AllReadyH.cons (by simp only [List.getElem?_toArray, List.getElem?_cons_zero, List.getElem?_cons_succ]; rfl) (fun K' hK => ?_) AllReadyH.nil
            rw [if_pos (by kernel_rfl)]
            refine wp_append_bytes (.tmp 47) (.tmp 48) (by rfl) w8.heap.size _ n _ (by rfl) own119 (some ⟨cu1.heap.size, 0, none⟩) cu1.heap.size 0 1 1 _ (by rfl) v8_124 (fun h => by cases h) (by omega) bel122.out.size ?_
            intro v129 cu128 own130 gr131 nn132
            have bel133 : Hid (Below w8.heap.size w8 cu128) := bel122.out.trans (grown_below gr131 own119 (Nat.le_refl _) bel122.out.size)
            have pr134 := (gr131.block _ (lt_of_some pr123) (fun e => own_ne_list own119 pr123 e.symm)).trans pr123
            rw [vals_cat2] at own130
            obtain ⟨g9_135, c9_136, rfl, hc137, _, _⟩ := own_some own130 (fun e => by have := nn132 e; cases this)
            have v9_138 := own_vw own130 (fun i _ => by have := cat_lt (n := n) HS.out (fun _ => (by decide : 0 < 256)) i; omega) (by omega)
            refine hK.out _ _ (H8.out.1.below bel133.out).range (fun hS => ?_)
            clear hK K' bel122 own119 v8_124 pr123 gr131 nn132 own130
            refine wpAnyH_ready (rs := [12]) (by kernel_rfl) (by simp) ?_
            refine AllReadyH.cons (by simp only [List.getElem?_toArray, List.getElem?_cons_zero, List.getElem?_cons_succ]; rfl) (fun K' hK => ?_) AllReadyH.nil
            have bw := ch H8.out.2 bel133.out
            have pp := parts_at pr134 (HA.out.2.1.below bw) hmc HX.out
            have cm := mcodes_any _ (some ⟨g9_135, 0, none⟩) g9_135 0 (n + 1) c9_136 (cat n S (fun _ => 0)) v9_138 hc137 (cat_lt HS.out (fun _ => (by decide : 0 < 256))) _ _ _ 1 1 _ _ _ _ _ _ pp (HA.out.2.2.below bw) (by omega) (by rw [tot_one]; omega)
            rw [tot_one, blk_zero hn64, hmac_same (Y := X) (fun i _ => by simp [jn, cat, tot]), ← HD.out] at cm
            rw [if_pos (by kernel_rfl)]
            go_simp
            refine cm.mono ?_
            rintro _ wz ⟨rfl, hbz⟩
            have HZ : Hid (Below w8.heap.size w8 wz) := ch bel133.out hbz
            refine hK.out _ _ (H8.out.1.below HZ.out).range (fun hS => ?_)
            clear hK K' hbz cm pp bw
            refine wpAnyH_take (i := 13) (v := ?_) (by simp only [List.getElem?_toArray, List.getElem?_cons_zero, List.getElem?_cons_succ]; rfl) (by kernel_rfl) (by kernel_rfl) (by kernel_rfl) (by exact fun _ _ _ h => h) (Or.inl ⟨by kernel_rfl, ?_⟩) hS ?_
            rotate_left
            · intro w' _
              go_simp
              try with_reducible rfl
            refine wpAnyH_take (i := 14) (v := ?_) (by simp only [List.getElem?_toArray, List.getElem?_cons_zero, List.getElem?_cons_succ]; rfl) (by kernel_rfl) (by kernel_rfl) (by kernel_rfl) (by exact fun _ _ _ h => h) (Or.inl ⟨by rfl, ?_⟩) hS ?_
            rotate_left
            · intro w' _
              go_simp
              try with_reducible rfl
            refine wpAnyH_take (i := 15) (v := ?_) (by simp only [List.getElem?_toArray, List.getElem?_cons_zero, List.getElem?_cons_succ]; rfl) (by kernel_rfl) (by kernel_rfl) (by kernel_rfl) (by exact fun _ _ _ h => h) (Or.inl ⟨by rfl, ?_⟩) hS ?_
            rotate_left
            · intro w' _
              go_simp
              try with_reducible rfl
            refine wpAnyH_done (by kernel_rfl) ?_ _
            have HF : Hid (Below W.heap.size W wz) := ch H8.out.2 HZ.out
            clear hS HZ
            go_wp2_with fail
            go_ret
            exact ⟨rfl, HF.out⟩
        · go_simp
          have bA : Below cu1.heap.size cu1 (cu1.alloc (.cells #[.slice ma m mc] 22)) := (Below.refl _ _).alloc (Nat.le_refl _) _
          have bel140 : Hid (Below w8.heap.size w8 (cu1.alloc (.cells #[.slice ma m mc] 22))) := ch bel2.out bA
          have o5_141 := o5_3.alloc (.cells #[.slice ma m mc] 22)
          have pr142 : (cu1.alloc (.cells #[.slice ma m mc] 22)).heap[cu1.heap.size]? = some (.cells #[.slice ma m mc] 22 (0, 0)) := heap_alloc_new _ _
          refine hK.out _ _ (H8.out.1.below bel140.out).range (fun hS => ?_)
          clear hK K' bA bel2 o5_3
          obtain ⟨cu139, hcu⟩ : ∃ x, x = cu1.alloc (.cells #[.slice ma m mc] 22) := ⟨_, rfl⟩
          rw [← hcu] at hS bel140 o5_141 pr142 ⊢
          clear hcu
          refine wpAnyH_ready (rs := [7, 8]) (by kernel_rfl) (by simp) ?_
          refine AllReadyH.cons (by simp only [List.getElem?_toArray, List.getElem?_cons_zero, List.getElem?_cons_succ]; rfl) (fun K' hK => ?_) (AllReadyH.cons (by simp only [List.getElem?_toArray, List.getElem?_cons_zero, List.getElem?_cons_succ]; rfl) (fun K' hK => ?_) AllReadyH.nil)
          · rw [if_pos (by kernel_rfl)]
            refine wp_append_bytes (.tmp 45) (.tmp 46) (by rfl) w8.heap.size _ 0 [] (by rfl) o5_141 Sa sb so n sc _ (by rfl) (HA.out.1.below (ch H8.out.2 bel140.out)) hSn (by omega) bel140.out.size ?_
            intro v144 cu143 own145 gr146 nn147
            have bel148 : Hid (Below w8.heap.size w8 cu143) := bel140.out.trans (grown_below gr146 o5_141 (Nat.le_refl _) bel140.out.size)
            have pr149 := (gr146.block _ (lt_of_some pr142) (fun e => own_ne_list o5_141 pr142 e.symm)).trans pr142
            replace own145 : cu143.ownsRow w8.heap.size 5 1 v144 n (vals (fun i => (S i : Int)) n) := by simpa using own145
            obtain ⟨g7_150, c7_151, rfl, hc152, _, _⟩ := own_some own145 (fun e => by have := nn147 e; simp at this)
            refine hK.out _ _ (H8.out.1.below bel148.out).range (fun hS => ?_)
            clear hK K' bel140 o5_141 pr142 gr146 nn147
            refine wpAnyH_ready (rs := [8]) (by kernel_rfl) (by simp) ?_
            refine AllReadyH.cons (by simp only [List.getElem?_toArray, List.getElem?_cons_zero, List.getElem?_cons_succ]; rfl) (fun K' hK => ?_) AllReadyH.nil
            go_simp
            have bA : Below cu143.heap.size cu143 (cu143.alloc (.cells #[.int .u8 0] 5)) := (Below.refl _ _).alloc (Nat.le_refl _) _
            have bel154 : Hid (Below w8.heap.size w8 (cu143.alloc (.cells #[.int .u8 0] 5))) := ch bel148.out bA
            have o7_155 := own145.alloc (.cells #[.int .u8 0] 5)
            have pr156 := (bA.block _ (lt_of_some pr149)).trans pr149
            have v8_157 : View (cu143.alloc (.cells #[.int .u8 0] 5)) (some ⟨cu143.heap.size, 0, none⟩) cu143.heap.size 0 1 (fun _ => ((0 : Nat) : Int)) := view_new1 cu143 0 (by decide) (by decide)
            refine hK.out _ _ (H8.out.1.below bel154.out).range (fun hS => ?_)
            clear hK K' bA bel148 own145 pr149
            obtain ⟨cu153, hcu⟩ : ∃ x, x = cu143.alloc (.cells #[.int .u8 0] 5) := ⟨_, rfl⟩
            rw [← hcu] at hS bel154 o7_155 v8_157 pr156 ⊢
            clear hcu
            refine wpAnyH_ready (rs := [9]) (by kernel_rfl) (by simp) ?_
            refine AllReadyH.cons (by simp only [List.getElem?_toArray, List.getElem?_cons_zero, List.getElem?_cons_succ]; rfl) (fun K' hK => ?_) AllReadyH.nil
            rw [if_pos (by kernel_rfl)]
            refine wp_append_bytes (.tmp 47) (.tmp 48) (by rfl) w8.heap.size _ n _ (by rfl) o7_155 (some ⟨cu143.heap.size, 0, none⟩) cu143.heap.size 0 1 1 _ (by rfl) v8_157 (fun h => by cases h) (by omega) bel154.out.size ?_
            intro v159 cu158 own160 gr161 nn162
            have bel163 : Hid (Below w8.heap.size w8 cu158) := bel154.out.trans (grown_below gr161 o7_155 (Nat.le_refl _) bel154.out.size)
            have pr164 := (gr161.block _ (lt_of_some pr156) (fun e => own_ne_list o7_155 pr156 e.symm)).trans pr156
            rw [vals_cat2] at own160
            obtain ⟨g9_165, c9_166, rfl, hc167, _, _⟩ := own_some own160 (fun e => by have := nn162 e; cases this)
            have v9_168 := own_vw own160 (fun i _ => by have := cat_lt (n := n) HS.out (fun _ => (by decide : 0 < 256)) i; omega) (by omega)
            refine hK.out _ _ (H8.out.1.below bel163.out).range (fun hS => ?_)
            clear hK K' bel154 o7_155 v8_157 pr156 gr161 nn162 own160
            refine wpAnyH_ready (rs := [12]) (by kernel_rfl) (by simp) ?_
            refine AllReadyH.cons (by simp only [List.getElem?_toArray, List.getElem?_cons_zero, List.getElem?_cons_succ]; rfl) (fun K' hK => ?_) AllReadyH.nil
            have bw := ch H8.out.2 bel163.out
            have pp := parts_at pr164 (HA.out.2.1.below bw) hmc HX.out
            have cm := mcodes_any _ (some ⟨g9_165, 0, none⟩) g9_165 0 (n + 1) c9_166 (cat n S (fun _ => 0)) v9_168 hc167 (cat_lt HS.out (fun _ => (by decide : 0 < 256))) _ _ _ 1 1 _ _ _ _ _ _ pp (HA.out.2.2.below bw) (by omega) (by rw [tot_one]; omega)
            rw [tot_one, blk_zero hn64, hmac_same (Y := X) (fun i _ => by simp [jn, cat, tot]), ← HD.out] at cm
            rw [if_pos (by kernel_rfl)]
            go_simp
            refine cm.mono ?_
            rintro _ wz ⟨rfl, hbz⟩
            have HZ : Hid (Below w8.heap.size w8 wz) := ch bel163.out hbz
            refine hK.out _ _ (H8.out.1.below HZ.out).range (fun hS => ?_)
            clear hK K' hbz cm pp bw
            refine wpAnyH_take (i := 13) (v := ?_) (by simp only [List.getElem?_toArray, List.getElem?_cons_zero, List.getElem?_cons_succ]; rfl) (by kernel_rfl) (by kernel_rfl) (by kernel_rfl) (by exact fun _ _ _ h => h) (Or.inl ⟨by kernel_rfl, ?_⟩) hS ?_
            rotate_left
            · intro w' _
              go_simp
              try with_reducible rfl
            refine wpAnyH_take (i := 14) (v := ?_) (by simp only [List.getElem?_toArray, List.getElem?_cons_zero, List.getElem?_cons_succ]; rfl) (by kernel_rfl) (by kernel_rfl) (by kernel_rfl) (by exact fun _ _ _ h => h) (Or.inl ⟨by rfl, ?_⟩) hS ?_
            rotate_left
            · intro w' _
              go_simp
              try with_reducible rfl
            refine wpAnyH_take (i := 15) (v := ?_) (by simp only [List.getElem?_toArray, List.getElem?_cons_zero, List.getElem?_cons_succ]; rfl) (by kernel_rfl) (by kernel_rfl) (by kernel_rfl) (by exact fun _ _ _ h => h) (Or.inl ⟨by rfl, ?_⟩) hS ?_
            rotate_left
            · intro w' _
              go_simp
              try with_reducible rfl
            refine wpAnyH_done (by kernel_rfl) ?_ _
            have HF : Hid (Below W.heap.size W wz) := ch H8.out.2 HZ.out
            clear hS HZ
            go_wp2_with fail
            go_ret
            exact ⟨rfl, HF.out⟩
          · go_simp
            have bA : Below cu139.heap.size cu139 (cu139.alloc (.cells #[.int .u8 0] 5)) := (Below.refl _ _).alloc (Nat.le_refl _) _
            have bel170 : Hid (Below w8.heap.size w8 (cu139.alloc (.cells #[.int .u8 0] 5))) := ch bel140.out bA
            have o5_171 := o5_141.alloc (.cells #[.int .u8 0] 5)
            have pr172 := (bA.block _ (lt_of_some pr142)).trans pr142
            have v8_173 : View (cu139.alloc (.cells #[.int .u8 0] 5)) (some ⟨cu139.heap.size, 0, none⟩) cu139.heap.size 0 1 (fun _ => ((0 : Nat) : Int)) := view_new1 cu139 0 (by decide) (by decide)
            have ne174 : cu139.heap.size ≠ ws.heap.size := by have := (o5_141.lt _ rfl).2; dsimp only at this; omega
            refine hK.out _ _ (H8.out.1.below bel170.out).range (fun hS => ?_)
            clear hK K' bA bel140 o5_141 pr142
            obtain ⟨cu169, hcu⟩ : ∃ x, x = cu139.alloc (.cells #[.int .u8 0] 5) := ⟨_, rfl⟩
            rw [← hcu] at hS bel170 o5_171 v8_173 pr172 ⊢
            clear hcu
            refine wpAnyH_ready (rs := [7]) (by kernel_rfl) (by simp) ?_
            refine AllReadyH.cons (by simp only [List.getElem?_toArray, List.getElem?_cons_zero, List.getElem?_cons_succ]; rfl) (fun K' hK => ?_) AllReadyH.nil
            rw [if_pos (by kernel_rfl)]
            refine wp_append_bytes (.tmp 45) (.tmp 46) (by rfl) w8.heap.size _ 0 [] (by rfl) o5_171 Sa sb so n sc _ (by rfl) (HA.out.1.below (ch H8.out.2 bel170.out)) hSn (by omega) bel170.out.size ?_
            intro v176 cu175 own177 gr178 nn179
            have bel180 : Hid (Below w8.heap.size w8 cu175) := bel170.out.trans (grown_below gr178 o5_171 (Nat.le_refl _) bel170.out.size)
            have pr181 := (gr178.block _ (lt_of_some pr172) (fun e => own_ne_list o5_171 pr172 e.symm)).trans pr172
            have v8_182 := v8_173.of_b (fun _ => gr178.block _ (v8_173.lt (by omega)) (fun e => ne174 (by injection e)))
            replace own177 : cu175.ownsRow w8.heap.size 5 1 v176 n (vals (fun i => (S i : Int)) n) := by simpa using own177
            obtain ⟨g7_183, c7_184, rfl, hc185, _, _⟩ := own_some own177 (fun e => by have := nn179 e; simp at this)
            refine hK.out _ _ (H8.out.1.below bel180.out).range (fun hS => ?_)
            clear hK K' bel170 o5_171 v8_173 pr172 gr178 nn179
            refine wpAnyH_ready (rs := [9]) (by kernel_rfl) (by simp) ?_
            refine AllReadyH.cons (by simp only [List.getElem?_toArray, List.getElem?_cons_zero, List.getElem?_cons_succ]; rfl) (fun K' hK => ?_) AllReadyH.nil
            rw [if_pos (by kernel_rfl)]
            refine wp_append_bytes (.tmp 47) (.tmp 48) (by rfl) w8.heap.size _ n _ (by rfl) own177 (some ⟨cu139.heap.size, 0, none⟩) cu139.heap.size 0 1 1 _ (by rfl) v8_182 (fun h => by cases h) (by omega) bel180.out.size ?_
            intro v187 cu186 own188 gr189 nn190
            have bel191 : Hid (Below w8.heap.size w8 cu186) := bel180.out.trans (grown_below gr189 own177 (Nat.le_refl _) bel180.out.size)
            have pr192 := (gr189.block _ (lt_of_some pr181) (fun e => own_ne_list own177 pr181 e.symm)).trans pr181
            rw [vals_cat2] at own188
            obtain ⟨g9_193, c9_194, rfl, hc195, _, _⟩ := own_some own188 (fun e => by have := nn190 e; cases this)
            have v9_196 := own_vw own188 (fun i _ => by have := cat_lt (n := n) HS.out (fun _ => (by decide : 0 < 256)) i; omega) (by omega)
            refine hK.out _ _ (H8.out.1.below bel191.out).range (fun hS => ?_)
            clear hK K' bel180 own177 v8_182 pr181 gr189 nn190 own188
            refine wpAnyH_ready (rs := [12]) (by kernel_rfl) (by simp) ?_
            refine AllReadyH.cons (by simp only [List.getElem?_toArray, List.getElem?_cons_zero, List.getElem?_cons_succ]; rfl) (fun K' hK => ?_) AllReadyH.nil
            have bw := ch H8.out.2 bel191.out
            have pp := parts_at pr192 (HA.out.2.1.below bw) hmc HX.out
            have cm := mcodes_any _ (some ⟨g9_193, 0, none⟩) g9_193 0 (n + 1) c9_194 (cat n S (fun _ => 0)) v9_196 hc195 (cat_lt HS.out (fun _ => (by decide : 0 < 256))) _ _ _ 1 1 _ _ _ _ _ _ pp (HA.out.2.2.below bw) (by omega) (by rw [tot_one]; omega)
            rw [tot_one, blk_zero hn64, hmac_same (Y := X) (fun i _ => by simp [jn, cat, tot]), ← HD.out] at cm
            rw [if_pos (by kernel_rfl)]
            go_simp
            refine cm.mono ?_
            rintro _ wz ⟨rfl, hbz⟩
            have HZ : Hid (Below w8.heap.size w8 wz) := ch bel191.out hbz
            refine hK.out _ _ (H8.out.1.below HZ.out).range (fun hS => ?_)
            clear hK K' hbz cm pp bw
            refine wpAnyH_take (i := 13) (v := ?_) (by simp only [List.getElem?_toArray, List.getElem?_cons_zero, List.getElem?_cons_succ]; rfl) (by kernel_rfl) (by kernel_rfl) (by kernel_rfl) (by exact fun _ _ _ h => h) (Or.inl ⟨by kernel_rfl, ?_⟩) hS ?_
            rotate_left
            · intro w' _
              go_simp
              try with_reducible rfl
            refine wpAnyH_take (i := 14) (v := ?_) (by simp only [List.getElem?_toArray, List.getElem?_cons_zero, List.getElem?_cons_succ]; rfl) (by kernel_rfl) (by kernel_rfl) (by kernel_rfl) (by exact fun _ _ _ h => h) (Or.inl ⟨by rfl, ?_⟩) hS ?_
            rotate_left
            · intro w' _
              go_simp
              try with_reducible rfl
            refine wpAnyH_take (i := 15) (v := ?_) (by simp only [List.getElem?_toArray, List.getElem?_cons_zero, List.getElem?_cons_succ]; rfl) (by kernel_rfl) (by kernel_rfl) (by kernel_rfl) (by exact fun _ _ _ h => h) (Or.inl ⟨by rfl, ?_⟩) hS ?_
            rotate_left
            · intro w' _
              go_simp
              try with_reducible rfl
            refine wpAnyH_done (by kernel_rfl) ?_ _
            have HF : Hid (Below W.heap.size W wz) := ch H8.out.2 HZ.out
            clear hS HZ
            go_wp2_with fail
            go_ret
            exact ⟨rfl, HF.out⟩
      · go_simp
        have bA : Below ws.heap.size ws (ws.alloc (.cells #[.int .u8 0] 5)) := (Below.refl _ _).alloc (Nat.le_refl _) _
        have bel198 : Hid (Below w8.heap.size w8 (ws.alloc (.cells #[.int .u8 0] 5))) := ch bel0.out bA
        have v8_199 : View (ws.alloc (.cells #[.int .u8 0] 5)) (some ⟨ws.heap.size, 0, none⟩) ws.heap.size 0 1 (fun _ => ((0 : Nat) : Int)) := view_new1 ws 0 (by decide) (by decide)
        refine hK.out _ _ (H8.out.1.below bel198.out).range (fun hS => ?_)
        clear hK K' bA bel0
        obtain ⟨cu197, hcu⟩ : ∃ x, x = ws.alloc (.cells #[.int .u8 0] 5) := ⟨_, rfl⟩
        rw [← hcu] at hS bel198 v8_199 ⊢
        clear hcu
        refine wpAnyH_ready (rs := [5, 11]) (by kernel_rfl) (by simp) ?_
        refine AllReadyH.cons (by simp only [List.getElem?_toArray, List.getElem?_cons_zero, List.getElem?_cons_succ]; rfl) (fun K' hK => ?_) (AllReadyH.cons (by simp only [List.getElem?_toArray, List.getElem?_cons_zero, List.getElem?_cons_succ]; rfl) (fun K' hK => ?_) AllReadyH.nil)
        · go_simp
          have bA : Below cu197.heap.size cu197 (cu197.alloc (.cells #[] 5)) := (Below.refl _ _).alloc (Nat.le_refl _) _
          have bel201 : Hid (Below w8.heap.size w8 (cu197.alloc (.cells #[] 5))) := ch bel198.out bA
          have v8_202 := v8_199.below bA
          have o5_203 := World.ownsRow_lit (base := w8.heap.size) (e := 5) (size := 1) cu197 #[] 0 bel198.out.size (by decide) rfl
          have ne204 : ws.heap.size ≠ cu197.heap.size := by have := v8_199.lt (by omega); omega
          refine hK.out _ _ (H8.out.1.below bel201.out).range (fun hS => ?_)
          clear hK K' bA bel198 v8_199
          obtain ⟨cu200, hcu⟩ : ∃ x, x = cu197.alloc (.cells #[] 5) := ⟨_, rfl⟩
          rw [← hcu] at hS bel201 o5_203 v8_202 ⊢
          clear hcu
          refine wpAnyH_ready (rs := [7, 11]) (by kernel_rfl) (by simp) ?_
          refine AllReadyH.cons (by simp only [List.getElem?_toArray, List.getElem?_cons_zero, List.getElem?_cons_succ]; rfl) (fun K' hK => ?_) (AllReadyH.cons (by simp only [List.getElem?_toArray, List.getElem?_cons_zero, List.getElem?_cons_succ]; rfl) (fun K' hK => ?_) AllReadyH.nil)
          · rw [if_pos (by kernel_rfl)]
            refine wp_append_bytes (.tmp 45) (.tmp 46) (by rfl) w8.heap.size _ 0 [] (by rfl) o5_203 Sa sb so n sc _ (by rfl) (HA.out.1.below (ch H8.out.2 bel201.out)) hSn (by omega) bel201.out.size ?_
            intro v206 cu205 own207 gr208 nn209
            have bel210 : Hid (Below w8.heap.size w8 cu205) := bel201.out.trans (grown_below gr208 o5_203 (Nat.le_refl _) bel201.out.size)
            have v8_211 := v8_202.of_b (fun _ => gr208.block _ (v8_202.lt (by omega)) (fun e => ne204 (by injection e)))
            replace own207 : cu205.ownsRow w8.heap.size 5 1 v206 n (vals (fun i => (S i : Int)) n) := by simpa using own207
            obtain ⟨g7_212, c7_213, rfl, hc214, _, _⟩ := own_some own207 (fun e => by have := nn209 e; simp at this)
            refine hK.out _ _ (H8.out.1.below bel210.out).range (fun hS => ?_)
            clear hK K' bel201 o5_203 v8_202 gr208 nn209
            refine wpAnyH_ready (rs := [9, 11]) (by kernel_rfl) (by simp) ?_
            refine AllReadyH.cons (by simp only [List.getElem?_toArray, List.getElem?_cons_zero, List.getElem?_cons_succ]; rfl) (fun K' hK => ?_) (AllReadyH.cons (by simp only [List.getElem?_toArray, List.getElem?_cons_zero, List.getElem?_cons_succ]; rfl) (fun K' hK => ?_) AllReadyH.nil)
            · rw [if_pos (by kernel_rfl)]
              refine wp_append_bytes (.tmp 47) (.tmp 48) (by rfl) w8.heap.size _ n _ (by rfl) own207 (some ⟨ws.heap.size, 0, none⟩) ws.heap.size 0 1 1 _ (by rfl) v8_211 (fun h => by cases h) (by omega) bel210.out.size ?_
              intro v216 cu215 own217 gr218 nn219
              have bel220 : Hid (Below w8.heap.size w8 cu215) := bel210.out.trans (grown_below gr218 own207 (Nat.le_refl _) bel210.out.size)
              rw [vals_cat2] at own217
              obtain ⟨g9_221, c9_222, rfl, hc223, _, _⟩ := own_some own217 (fun e => by have := nn219 e; cases this)
              have v9_224 := own_vw own217 (fun i _ => by have := cat_lt (n := n) HS.out (fun _ => (by decide : 0 < 256)) i; omega) (by omega)
              refine hK.out _ _ (H8.out.1.below bel220.out).range (fun hS => ?_)
              clear hK K' bel210 own207 v8_211 gr218 nn219 own217
              refine wpAnyH_ready (rs := [11]) (by kernel_rfl) (by simp) ?_
              refine AllReadyH.cons (by simp only [List.getElem?_toArray, List.getElem?_cons_zero, List.getElem?_cons_succ]; rfl) (fun K' hK => ?_) AllReadyH.nil
              go_simp
              have bA : Below cu215.heap.size cu215 (cu215.alloc (.cells #[.slice ma m mc] 22)) := (Below.refl _ _).alloc (Nat.le_refl _) _
              have bel226 : Hid (Below w8.heap.size w8 (cu215.alloc (.cells #[.slice ma m mc] 22))) := ch bel220.out bA
              have v9_227 := v9_224.below bA
              have pr228 : (cu215.alloc (.cells #[.slice ma m mc] 22)).heap[cu215.heap.size]? = some (.cells #[.slice ma m mc] 22 (0, 0)) := heap_alloc_new _ _
              refine hK.out _ _ (H8.out.1.below bel226.out).range (fun hS => ?_)
              clear hK K' bA bel220 v9_224
              obtain ⟨cu225, hcu⟩ : ∃ x, x = cu215.alloc (.cells #[.slice ma m mc] 22) := ⟨_, rfl⟩
              rw [← hcu] at hS bel226 v9_227 pr228 ⊢
              clear hcu
              refine wpAnyH_ready (rs := [12]) (by kernel_rfl) (by simp) ?_
              refine AllReadyH.cons (by simp only [List.getElem?_toArray, List.getElem?_cons_zero, List.getElem?_cons_succ]; rfl) (fun K' hK => ?_) AllReadyH.nil
              have bw := ch H8.out.2 bel226.out
              have pp := parts_at pr228 (HA.out.2.1.below bw) hmc HX.out
              have cm := mcodes_any _ (some ⟨g9_221, 0, none⟩) g9_221 0 (n + 1) c9_222 (cat n S (fun _ => 0)) v9_227 hc223 (cat_lt HS.out (fun _ => (by decide : 0 < 256))) _ _ _ 1 1 _ _ _ _ _ _ pp (HA.out.2.2.below bw) (by omega) (by rw [tot_one]; omega)
              rw [tot_one, blk_zero hn64, hmac_same (Y := X) (fun i _ => by simp [jn, cat, tot]), ← HD.out] at cm
              rw [if_pos (by kernel_rfl)]
              go_simp
              refine cm.mono ?_
              rintro _ wz ⟨rfl, hbz⟩
              have HZ : Hid (Below w8.heap.size w8 wz) := ch bel226.out hbz
              refine hK.out _ _ (H8.out.1.below HZ.out).range (fun hS => ?_)
              clear hK K' hbz cm pp bw
              refine wpAnyH_take (i := 13) (v := ?_) (by simp only [List.getElem?_toArray, List.getElem?_cons_zero, List.getElem?_cons_succ]; rfl) (by kernel_rfl) (by kernel_rfl) (by kernel_rfl) (by exact fun _ _ _ h => h) (Or.inl ⟨by kernel_rfl, ?_⟩) hS ?_
              rotate_left
              · intro w' _
                go_simp
                try with_reducible rfl
              refine wpAnyH_take (i := 14) (v := ?_) (by simp only [List.getElem?_toArray, List.getElem?_cons_zero, List.getElem?_cons_succ]; rfl) (by kernel_rfl) (by kernel_rfl) (by kernel_rfl) (by exact fun _ _ _ h => h) (Or.inl ⟨by rfl, ?_⟩) hS ?_
              rotate_left
              · intro w' _
                go_simp
                try with_reducible rfl
              refine wpAnyH_take (i := 15) (v := ?_) (by simp only [List.getElem?_toArray, List.getElem?_cons_zero, List.getElem?_cons_succ]; rfl) (by kernel_rfl) (by kernel_rfl) (by kernel_rfl) (by exact fun _ _ _ h => h) (Or.inl ⟨by rfl, ?_⟩) hS ?_
              rotate_left
              · intro w' _
                go_simp
                try with_reducible rfl
              refine wpAnyH_done (by kernel_rfl) ?_ _
              have HF : Hid (Below W.heap.size W wz) := ch H8.out.2 HZ.out
              clear hS HZ
              go_wp2_with fail
              go_ret
              exact ⟨rfl, HF.out⟩
            · go_simp
              have bA : Below cu205.heap.size cu205 (cu205.alloc (.cells #[.slice ma m mc] 22)) := (Below.refl _ _).alloc (Nat.le_refl _) _
              have bel230 : Hid (Below w8.heap.size w8 (cu205.alloc (.cells #[.slice ma m mc] 22))) := ch bel210.out bA
              have o7_231 := own207.alloc (.cells #[.slice ma m mc] 22)
              have v8_232 := v8_211.below bA
              have pr233 : (cu205.alloc (.cells #[.slice ma m mc] 22)).heap[cu205.heap.size]? = some (.cells #[.slice ma m mc] 22 (0, 0)) := heap_alloc_new _ _
              refine hK.out _ _ (H8.out.1.below bel230.out).range (fun hS => ?_)
              clear hK K' bA bel210 own207 v8_211
              obtain ⟨cu229, hcu⟩ : ∃ x, x = cu205.alloc (.cells #[.slice ma m mc] 22) := ⟨_, rfl⟩
              rw [← hcu] at hS bel230 o7_231 v8_232 pr233 ⊢
              clear hcu
              refine wpAnyH_ready (rs := [9]) (by kernel_rfl) (by simp) ?_
              refine AllReadyH.cons (by simp only [List.getElem?_toArray, List.getElem?_cons_zero, List.getElem?_cons_succ]; rfl) (fun K' hK => ?_) AllReadyH.nil
              rw [if_pos (by kernel_rfl)]
              refine wp_append_bytes (.tmp 47) (.tmp 48) (by rfl) w8.heap.size _ n _ (by rfl) o7_231 (some ⟨ws.heap.size, 0, none⟩) ws.heap.size 0 1 1 _ (by rfl) v8_232 (fun h => by cases h) (by omega) bel230.out.size ?_
              intro v235 cu234 own236 gr237 nn238
              have bel239 : Hid (Below w8.heap.size w8 cu234) := bel230.out.trans (grown_below gr237 o7_231 (Nat.le_refl _) bel230.out.size)
              have pr240 := (gr237.block _ (lt_of_some pr233) (fun e => own_ne_list o7_231 pr233 e.symm)).trans pr233
              rw [vals_cat2] at own236
              obtain ⟨g9_241, c9_242, rfl, hc243, _, _⟩ := own_some own236 (fun e => by have := nn238 e; cases this)
              have v9_244 := own_vw own236 (fun i _ => by have := cat_lt (n := n) HS.out (fun _ => (by decide : 0 < 256)) i; omega) (by omega)
              refine hK.out _ _ (H8.out.1.below bel239.out).range (fun hS => ?_)
              clear hK K' bel230 o7_231 v8_232 pr233 gr237 nn238 own236
              refine wpAnyH_ready (rs := [12]) (by kernel_rfl) (by simp) ?_
              refine AllReadyH.cons (by simp only [List.getElem?_toArray, List.getElem?_cons_zero, List.getElem?_cons_succ]; rfl) (fun K' hK => ?_) AllReadyH.nil
              have bw := ch H8.out.2 bel239.out
              have pp := parts_at pr240 (HA.out.2.1.below bw) hmc HX.out
              have cm := mcodes_any _ (some ⟨g9_241, 0, none⟩) g9_241 0 (n + 1) c9_242 (cat n S (fun _ => 0)) v9_244 hc243 (cat_lt HS.out (fun _ => (by decide : 0 < 256))) _ _ _ 1 1 _ _ _ _ _ _ pp (HA.out.2.2.below bw) (by omega) (by rw [tot_one]; omega)
              rw [tot_one, blk_zero hn64, hmac_same (Y := X) (fun i _ => by simp [jn, cat, tot]), ← HD.out] at cm
              rw [if_pos (by kernel_rfl)]
              go_simp
              refine cm.mono ?_
              rintro _ wz ⟨rfl, hbz⟩
              have HZ : Hid (Below w8.heap.size w8 wz) := ch bel239.out hbz
              refine hK.out _ _ (H8.out.1.below HZ.out).range (fun hS => ?_)
              clear hK K' hbz cm pp bw
              refine wpAnyH_take (i := 13) (v := ?_) (by simp only [List.getElem?_toArray, List.getElem?_cons_zero, List.getElem?_cons_succ]; rfl) (by kernel_rfl) (by kernel_rfl) (by kernel_rfl) (by exact fun _ _ _ h => h) (Or.inl ⟨by kernel_rfl, ?_⟩) hS ?_
              rotate_left
              · intro w' _
                go_simp
                try with_reducible rfl
              refine wpAnyH_take (i := 14) (v := ?_) (by simp only [List.getElem?_toArray, List.getElem?_cons_zero, List.getElem?_cons_succ]; rfl) (by kernel_rfl) (by kernel_rfl) (by kernel_rfl) (by exact fun _ _ _ h => h) (Or.inl ⟨by rfl, ?_⟩) hS ?_
              rotate_left
              · intro w' _
                go_simp
                try with_reducible rfl
              refine wpAnyH_take (i := 15) (v := ?_) (by simp only [List.getElem?_toArray, List.getElem?_cons_zero, List.getElem?_cons_succ]; rfl) (by kernel_rfl) (by kernel_rfl) (by kernel_rfl) (by exact fun _ _ _ h => h) (Or.inl ⟨by rfl, ?_⟩) hS ?_
              rotate_left
              · intro w' _
                go_simp
                try with_reducible rfl
              refine wpAnyH_done (by kernel_rfl) ?_ _
              have HF : Hid (Below W.heap.size W wz) := ch H8.out.2 HZ.out
              clear hS HZ
              go_wp2_with fail
              go_ret
              exact ⟨rfl, HF.out⟩
          · go_simp
            have bA : Below cu200.heap.size cu200 (cu200.alloc (.cells #[.slice ma m mc] 22)) := (Below.refl _ _).alloc (Nat.le_refl _) _
            have bel246 : Hid (Below w8.heap.size w8 (cu200.alloc (.cells #[.slice ma m mc] 22))) := ch bel201.out bA
            have o5_247 := o5_203.alloc (.cells #[.slice ma m mc] 22)
            have v8_248 := v8_202.below bA
            have pr249 : (cu200.alloc (.cells #[.slice ma m mc] 22)).heap[cu200.heap.size]? = some (.cells #[.slice ma m mc] 22 (0, 0)) := heap_alloc_new _ _
            refine hK.out _ _ (H8.out.1.below bel246.out).range (fun hS => ?_)
            clear hK K' bA bel201 o5_203 v8_202
            obtain ⟨cu245, hcu⟩ : ∃ x, x = cu200.alloc (.cells #[.slice ma m mc] 22) := ⟨_, rfl⟩
            rw [← hcu] at hS bel246 o5_247 v8_248 pr249 ⊢
            clear hcu
            refine wpAnyH_ready (rs := [7]) (by kernel_rfl) (by simp) ?_
            refine AllReadyH.cons (by simp only [List.getElem?_toArray, List.getElem?_cons_zero, List.getElem?_cons_succ]; rfl) (fun K' hK => ?_) AllReadyH.nil
            rw [if_pos (by kernel_rfl)]
            refine wp_append_bytes (.tmp 45) (.tmp 46) (by rfl) w8.heap.size _ 0 [] (by rfl) o5_247 Sa sb so n sc _ (by rfl) (HA.out.1.below (ch H8.out.2 bel246.out)) hSn (by omega) bel246.out.size ?_
            intro v251 cu250 own252 gr253 nn254
            have bel255 : Hid (Below w8.heap.size w8 cu250) := bel246.out.trans (grown_below gr253 o5_247 (Nat.le_refl _) bel246.out.size)
            have pr256 := (gr253.block _ (lt_of_some pr249) (fun e => own_ne_list o5_247 pr249 e.symm)).trans pr249
            have v8_257 := v8_248.of_b (fun _ => gr253.block _ (v8_248.lt (by omega)) (fun e => ne204 (by injection e)))
            replace own252 : cu250.ownsRow w8.heap.size 5 1 v251 n (vals (fun i => (S i : Int)) n) := by simpa using own252
            obtain ⟨g7_258, c7_259, rfl, hc260, _, _⟩ := own_some own252 (fun e => by have := nn254 e; simp at this)
            refine hK.out _ _ (H8.out.1.below bel255.out).range (fun hS => ?_)
            clear hK K' bel246 o5_247 v8_248 pr249 gr253 nn254
            refine wpAnyH_ready (rs := [9]) (by kernel_rfl) (by simp) ?_
            refine AllReadyH.cons (by simp only [List.getElem?_toArray, List.getElem?_cons_zero, List.getElem?_cons_succ]; rfl) (fun K' hK => ?_) AllReadyH.nil
            rw [if_pos (by kernel_rfl)]
            refine wp_append_bytes (.tmp 47) (.tmp 48) (by rfl) w8.heap.size _ n _ (by rfl) own252 (some ⟨ws.heap.size, 0, none⟩) ws.heap.size 0 1 1 _ (by rfl) v8_257 (fun h => by cases h) (by omega) bel255.out.size ?_
            intro v262 cu261 own263 gr264 nn265
            have bel266 : Hid (Below w8.heap.size w8 cu261) := bel255.out.trans (grown_below gr264 own252 (Nat.le_refl _) bel255.out.size)
            have pr267 := (gr264.block _ (lt_of_some pr256) (fun e => own_ne_list own252 pr256 e.symm)).trans pr256
            rw [vals_cat2] at own263
            obtain ⟨g9_268, c9_269, rfl, hc270, _, _⟩ := own_some own263 (fun e => by have := nn265 e; cases this)
            have v9_271 := own_vw own263 (fun i _ => by have := cat_lt (n := n) HS.out (fun _ => (by decide : 0 < 256)) i; omega) (by omega)
            refine hK.out _ _ (H8.out.1.below bel266.out).range (fun hS => ?_)
            clear hK K' bel255 own252 v8_257 pr256 gr264 nn265 own263
            refine wpAnyH_ready (rs := [12]) (by kernel_rfl) (by simp) ?_
            refine AllReadyH.cons (by simp only [List.getElem?_toArray, List.getElem?_cons_zero, List.getElem?_cons_succ]; rfl) (fun K' hK => ?_) AllReadyH.nil
            have bw := ch H8.out.2 bel266.out
            have pp := parts_at pr267 (HA.out.2.1.below bw) hmc HX.out
            have cm := mcodes_any _ (some ⟨g9_268, 0, none⟩) g9_268 0 (n + 1) c9_269 (cat n S (fun _ => 0)) v9_271 hc270 (cat_lt HS.out (fun _ => (by decide : 0 < 256))) _ _ _ 1 1 _ _ _ _ _ _ pp (HA.out.2.2.below bw) (by omega) (by rw [tot_one]; omega)
            rw [tot_one, blk_zero hn64, hmac_same (Y := X) (fun i _ => by simp [jn, cat, tot]), ← HD.out] at cm
            rw [if_pos (by kernel_rfl)]
            go_simp
            refine cm.mono ?_
            rintro _ wz ⟨rfl, hbz⟩
            have HZ : Hid (Below w8.heap.size w8 wz) := ch bel266.out hbz
            refine hK.out _ _ (H8.out.1.below HZ.out).range (fun hS => ?_)
            clear hK K' hbz cm pp bw
            refine wpAnyH_take (i := 13) (v := ?_) (by simp only [List.getElem?_toArray, List.getElem?_cons_zero, List.getElem?_cons_succ]; rfl) (by kernel_rfl) (by kernel_rfl) (by kernel_rfl) (by exact fun _ _ _ h => h) (Or.inl ⟨by kernel_rfl, ?_⟩) hS ?_
            rotate_left
            · intro w' _
              go_simp
              try with_reducible rfl
            refine wpAnyH_take (i := 14) (v := ?_) (by simp only [List.getElem?_toArray, List.getElem?_cons_zero, List.getElem?_cons_succ]; rfl) (by kernel_rfl) (by kernel_rfl) (by kernel_rfl) (by exact fun _ _ _ h => h) (Or.inl ⟨by rfl, ?_⟩) hS ?_
            rotate_left
            · intro w' _
              go_simp
              try with_reducible rfl
            refine wpAnyH_take (i := 15) (v := ?_) (by simp only [List.getElem?_toArray, List.getElem?_cons_zero, List.getElem?_cons_succ]; rfl) (by kernel_rfl) (by kernel_rfl) (by kernel_rfl) (by exact fun _ _ _ h => h) (Or.inl ⟨by rfl, ?_⟩) hS ?_
            rotate_left
            · intro w' _
              go_simp
              try with_reducible rfl
            refine wpAnyH_done (by kernel_rfl) ?_ _
            have HF : Hid (Below W.heap.size W wz) := ch H8.out.2 HZ.out
            clear hS HZ
            go_wp2_with fail
            go_ret
            exact ⟨rfl, HF.out⟩
        · go_simp
          have bA : Below cu197.heap.size cu197 (cu197.alloc (.cells #[.slice ma m mc] 22)) := (Below.refl _ _).alloc (Nat.le_refl _) _
          have bel273 : Hid (Below w8.heap.size w8 (cu197.alloc (.cells #[.slice ma m mc] 22))) := ch bel198.out bA
          have v8_274 := v8_199.below bA
          have pr275 : (cu197.alloc (.cells #[.slice ma m mc] 22)).heap[cu197.heap.size]? = some (.cells #[.slice ma m mc] 22 (0, 0)) := heap_alloc_new _ _
          refine hK.out _ _ (H8.out.1.below bel273.out).range (fun hS => ?_)
          clear hK K' bA bel198 v8_199
          obtain ⟨cu272, hcu⟩ : ∃ x, x = cu197.alloc (.cells #[.slice ma m mc] 22) := ⟨_, rfl⟩
          rw [← hcu] at hS bel273 v8_274 pr275 ⊢
          clear hcu
          refine wpAnyH_ready (rs := [5]) (by kernel_rfl) (by simp) ?_
          refine AllReadyH.cons (by simp only [List.getElem?_toArray, List.getElem?_cons_zero, List.getElem?_cons_succ]; rfl) (fun K' hK => ?_) AllReadyH.nil
          go_simp
          have bA : Below cu272.heap.size cu272 (cu272.alloc (.cells #[] 5)) := (Below.refl _ _).alloc (Nat.le_refl _) _
          have bel277 : Hid (Below w8.heap.size w8 (cu272.alloc (.cells #[] 5))) := ch bel273.out bA
          have v8_278 := v8_274.below bA
          have pr279 := (bA.block _ (lt_of_some pr275)).trans pr275
          have o5_280 := World.ownsRow_lit (base := w8.heap.size) (e := 5) (size := 1) cu272 #[] 0 bel273.out.size (by decide) rfl
          have ne281 : ws.heap.size ≠ cu272.heap.size := by have := v8_274.lt (by omega); omega
          refine hK.out _ _ (H8.out.1.below bel277.out).range (fun hS => ?_)
          clear hK K' bA bel273 v8_274 pr275
          obtain ⟨cu276, hcu⟩ : ∃ x, x = cu272.alloc (.cells #[] 5) := ⟨_, rfl⟩
          rw [← hcu] at hS bel277 o5_280 v8_278 pr279 ⊢
          clear hcu
          refine wpAnyH_ready (rs := [7]) (by kernel_rfl) (by simp) ?_
          refine AllReadyH.cons (by simp only [List.getElem?_toArray, List.getElem?_cons_zero, List.getElem?_cons_succ]; rfl) (fun K' hK => ?_) AllReadyH.nil
          rw [if_pos (by kernel_rfl)]
          refine wp_append_bytes (.tmp 45) (.tmp 46) (by rfl) w8.heap.size _ 0 [] (by rfl) o5_280 Sa sb so n sc _ (by rfl) (HA.out.1.below (ch H8.out.2 bel277.out)) hSn (by omega) bel277.out.size ?_
          intro v283 cu282 own284 gr285 nn286
          have bel287 : Hid (Below w8.heap.size w8 cu282) := bel277.out.trans (grown_below gr285 o5_280 (Nat.le_refl _) bel277.out.size)
          have pr288 := (gr285.block _ (lt_of_some pr279) (fun e => own_ne_list o5_280 pr279 e.symm)).trans pr279
          have v8_289 := v8_278.of_b (fun _ => gr285.block _ (v8_278.lt (by omega)) (fun e => ne281 (by injection e)))
          replace own284 : cu282.ownsRow w8.heap.size 5 1 v283 n (vals (fun i => (S i : Int)) n) := by simpa using own284
          obtain ⟨g7_290, c7_291, rfl, hc292, _, _⟩ := own_some own284 (fun e => by have := nn286 e; simp at this)
          refine hK.out _ _ (H8.out.1.below bel287.out).range (fun hS => ?_)
          clear hK K' bel277 o5_280 v8_278 pr279 gr285 nn286
          refine wpAnyH_ready (rs := [9]) (by kernel_rfl) (by simp) ?_
          refine AllReadyH.cons (by simp only [List.getElem?_toArray, List.getElem?_cons_zero, List.getElem?_cons_succ]; rfl) (fun K' hK => ?_) AllReadyH.nil
          rw [if_pos (by kernel_rfl)]
          refine wp_append_bytes (.tmp 47) (.tmp 48) (by rfl) w8.heap.size _ n _ (by rfl) own284 (some ⟨ws.heap.size, 0, none⟩) ws.heap.size 0 1 1 _ (by rfl) v8_289 (fun h => by cases h) (by omega) bel287.out.size ?_
          intro v294 cu293 own295 gr296 nn297
          have bel298 : Hid (Below w8.heap.size w8 cu293) := bel287.out.trans (grown_below gr296 own284 (Nat.le_refl _) bel287.out.size)
          have pr299 := (gr296.block _ (lt_of_some pr288) (fun e => own_ne_list own284 pr288 e.symm)).trans pr288
          rw [vals_cat2] at own295
          obtain ⟨g9_300, c9_301, rfl, hc302, _, _⟩ := own_some own295 (fun e => by have := nn297 e; cases this)
          have v9_303 := own_vw own295 (fun i _ => by have := cat_lt (n := n) HS.out (fun _ => (by decide : 0 < 256)) i; omega) (by omega)
          refine hK.out _ _ (H8.out.1.below bel298.out).range (fun hS => ?_)
          clear hK K' bel287 own284 v8_289 pr288 gr296 nn297 own295
          refine wpAnyH_ready (rs := [12]) (by kernel_rfl) (by simp) ?_
          refine AllReadyH.cons (by simp only [List.getElem?_toArray, List.getElem?_cons_zero, List.getElem?_cons_succ]; rfl) (fun K' hK => ?_) AllReadyH.nil
          have bw := ch H8.out.2 bel298.out
          have pp := parts_at pr299 (HA.out.2.1.below bw) hmc HX.out
          have cm := mcodes_any _ (some ⟨g9_300, 0, none⟩) g9_300 0 (n + 1) c9_301 (cat n S (fun _ => 0)) v9_303 hc302 (cat_lt HS.out (fun _ => (by decide : 0 < 256))) _ _ _ 1 1 _ _ _ _ _ _ pp (HA.out.2.2.below bw) (by omega) (by rw [tot_one]; omega)
          rw [tot_one, blk_zero hn64, hmac_same (Y := X) (fun i _ => by simp [jn, cat, tot]), ← HD.out] at cm
          rw [if_pos (by kernel_rfl)]
          go_simp
          refine cm.mono ?_
          rintro _ wz ⟨rfl, hbz⟩
          have HZ : Hid (Below w8.heap.size w8 wz) := ch bel298.out hbz
          refine hK.out _ _ (H8.out.1.below HZ.out).range (fun hS => ?_)
          clear hK K' hbz cm pp bw
          refine wpAnyH_take (i := 13) (v := ?_) (by simp only [List.getElem?_toArray, List.getElem?_cons_zero, List.getElem?_cons_succ]; rfl) (by kernel_rfl) (by kernel_rfl) (by kernel_rfl) (by exact fun _ _ _ h => h) (Or.inl ⟨by kernel_rfl, ?_⟩) hS ?_
          rotate_left
          · intro w' _
            go_simp
            try with_reducible rfl
          refine wpAnyH_take (i := 14) (v := ?_) (by simp only [List.getElem?_toArray, List.getElem?_cons_zero, List.getElem?_cons_succ]; rfl) (by kernel_rfl) (by kernel_rfl) (by kernel_rfl) (by exact fun _ _ _ h => h) (Or.inl ⟨by rfl, ?_⟩) hS ?_
          rotate_left
          · intro w' _
            go_simp
            try with_reducible rfl
          refine wpAnyH_take (i := 15) (v := ?_) (by simp only [List.getElem?_toArray, List.getElem?_cons_zero, List.getElem?_cons_succ]; rfl) (by kernel_rfl) (by kernel_rfl) (by kernel_rfl) (by exact fun _ _ _ h => h) (Or.inl ⟨by rfl, ?_⟩) hS ?_
          rotate_left
          · intro w' _
            go_simp
            try with_reducible rfl
          refine wpAnyH_done (by kernel_rfl) ?_ _
          have HF : Hid (Below W.heap.size W wz) := ch H8.out.2 HZ.out
          clear hS HZ
          go_wp2_with fail
          go_ret
          exact ⟨rfl, HF.out⟩
      · go_simp
        have bA : Below ws.heap.size ws (ws.alloc (.cells #[.slice ma m mc] 22)) := (Below.refl _ _).alloc (Nat.le_refl _) _
        have bel305 : Hid (Below w8.heap.size w8 (ws.alloc (.cells #[.slice ma m mc] 22))) := ch bel0.out bA
        have pr306 : (ws.alloc (.cells #[.slice ma m mc] 22)).heap[ws.heap.size]? = some (.cells #[.slice ma m mc] 22 (0, 0)) := heap_alloc_new _ _
        refine hK.out _ _ (H8.out.1.below bel305.out).range (fun hS => ?_)
        clear hK K' bA bel0
        obtain ⟨cu304, hcu⟩ : ∃ x, x = ws.alloc (.cells #[.slice ma m mc] 22) := ⟨_, rfl⟩
        rw [← hcu] at hS bel305 pr306 ⊢
        clear hcu
        refine wpAnyH_ready (rs := [5, 8]) (by kernel_rfl) (by simp) ?_
        refine AllReadyH.cons (by simp only [List.getElem?_toArray, List.getElem?_cons_zero, List.getElem?_cons_succ]; rfl) (fun K' hK => ?_) (AllReadyH.cons (by simp only [List.getElem?_toArray, List.getElem?_cons_zero, List.getElem?_cons_succ]; rfl) (fun K' hK => ?_) AllReadyH.nil)
        · go_simp
          have bA : Below cu304.heap.size cu304 (cu304.alloc (.cells #[] 5)) := (Below.refl _ _).alloc (Nat.le_refl _) _
          have bel308 : Hid (Below w8.heap.size w8 (cu304.alloc (.cells #[] 5))) := ch bel305.out bA
          have pr309 := (bA.block _ (lt_of_some pr306)).trans pr306
          have o5_310 := World.ownsRow_lit (base := w8.heap.size) (e := 5) (size := 1) cu304 #[] 0 bel305.out.size (by decide) rfl
          refine hK.out _ _ (H8.out.1.below bel308.out).range (fun hS => ?_)
          clear hK K' bA bel305 pr306
          obtain ⟨cu307, hcu⟩ : ∃ x, x = cu304.alloc (.cells #[] 5) := ⟨_, rfl⟩
          rw [← hcu] at hS bel308 o5_310 pr309 ⊢
          clear hcu
          refine wpAnyH_ready (rs := [7, 8]) (by kernel_rfl) (by simp) ?_
          refine AllReadyH.cons (by simp only [List.getElem?_toArray, List.getElem?_cons_zero, List.getElem?_cons_succ]; rfl) (fun K' hK => ?_) (AllReadyH.cons (by simp only [List.getElem?_toArray, List.getElem?_cons_zero, List.getElem?_cons_succ]; rfl) (fun K' hK => ?_) AllReadyH.nil)
          · rw [if_pos (by kernel_rfl)]
            refine wp_append_bytes (.tmp 45) (.tmp 46) (by rfl) w8.heap.size _ 0 [] (by rfl) o5_310 Sa sb so n sc _ (by rfl) (HA.out.1.below (ch H8.out.2 bel308.out)) hSn (by omega) bel308.out.size ?_
            intro v312 cu311 own313 gr314 nn315
            have bel316 : Hid (Below w8.heap.size w8 cu311) := bel308.out.trans (grown_below gr314 o5_310 (Nat.le_refl _) bel308.out.size)
            have pr317 := (gr314.block _ (lt_of_some pr309) (fun e => own_ne_list o5_310 pr309 e.symm)).trans pr309
            replace own313 : cu311.ownsRow w8.heap.size 5 1 v312 n (vals (fun i => (S i : Int)) n) := by simpa using own313
            obtain ⟨g7_318, c7_319, rfl, hc320, _, _⟩ := own_some own313 (fun e => by have := nn315 e; simp at this)
            refine hK.out _ _ (H8.out.1.below bel316.out).range (fun hS => ?_)
            clear hK K' bel308 o5_310 pr309 gr314 nn315
            refine wpAnyH_ready (rs := [8]) (by kernel_rfl) (by simp) ?_
            refine AllReadyH.cons (by simp only [List.getElem?_toArray, List.getElem?_cons_zero, List.getElem?_cons_succ]; rfl) (fun K' hK => ?_) AllReadyH.nil
            go_simp
            have bA : Below cu311.heap.size cu311 (cu311.alloc (.cells #[.int .u8 0] 5)) := (Below.refl _ _).alloc (Nat.le_refl _) _
            have bel322 : Hid (Below w8.heap.size w8 (cu311.alloc (.cells #[.int .u8 0] 5))) := ch bel316.out bA
            have o7_323 := own313.alloc (.cells #[.int .u8 0] 5)
            have pr324 := (bA.block _ (lt_of_some pr317)).trans pr317
            have v8_325 : View (cu311.alloc (.cells #[.int .u8 0] 5)) (some ⟨cu311.heap.size, 0, none⟩) cu311.heap.size 0 1 (fun _ => ((0 : Nat) : Int)) := view_new1 cu311 0 (by decide) (by decide)
            refine hK.out _ _ (H8.out.1.below bel322.out).range (fun hS => ?_)
            clear hK K' bA bel316 own313 pr317
            obtain ⟨cu321, hcu⟩ : ∃ x, x = cu311.alloc (.cells #[.int .u8 0] 5) := ⟨_, rfl⟩
            rw [← hcu] at hS bel322 o7_323 v8_325 pr324 ⊢
            clear hcu
            refine wpAnyH_ready (rs := [9]) (by kernel_rfl) (by simp) ?_
            refine AllReadyH.cons (by simp only [List.getElem?_toArray, List.getElem?_cons_zero, List.getElem?_cons_succ]; rfl) (fun K' hK => ?_) AllReadyH.nil
            rw [if_pos (by kernel_rfl)]
            refine wp_append_bytes (.tmp 47) (.tmp 48) (by rfl) w8.heap.size _ n _ (by rfl) o7_323 (some ⟨cu311.heap.size, 0, none⟩) cu311.heap.size 0 1 1 _ (by rfl) v8_325 (fun h => by cases h) (by omega) bel322.out.size ?_
            intro v327 cu326 own328 gr329 nn330
            have bel331 : Hid (Below w8.heap.size w8 cu326) := bel322.out.trans (grown_below gr329 o7_323 (Nat.le_refl _) bel322.out.size)
            have pr332 := (gr329.block _ (lt_of_some pr324) (fun e => own_ne_list o7_323 pr324 e.symm)).trans pr324
            rw [vals_cat2] at own328
            obtain ⟨g9_333, c9_334, rfl, hc335, _, _⟩ := own_some own328 (fun e => by have := nn330 e; cases this)
            have v9_336 := own_vw own328 (fun i _ => by have := cat_lt (n := n) HS.out (fun _ => (by decide : 0 < 256)) i; omega) (by omega)
            refine hK.out _ _ (H8.out.1.below bel331.out).range (fun hS => ?_)
            clear hK K' bel322 o7_323 v8_325 pr324 gr329 nn330 own328
            refine wpAnyH_ready (rs := [12]) (by kernel_rfl) (by simp) ?_
            refine AllReadyH.cons (by simp only [List.getElem?_toArray, List.getElem?_cons_zero, List.getElem?_cons_succ]; rfl) (fun K' hK => ?_) AllReadyH.nil
            have bw := ch H8.out.2 bel331.out
            have pp := parts_at pr332 (HA.out.2.1.below bw) hmc HX.out
            have cm := mcodes_any _ (some ⟨g9_333, 0, none⟩) g9_333 0 (n + 1) c9_334 (cat n S (fun _ => 0)) v9_336 hc335 (cat_lt HS.out (fun _ => (by decide : 0 < 256))) _ _ _ 1 1 _ _ _ _ _ _ pp (HA.out.2.2.below bw) (by omega) (by rw [tot_one]; omega)
            rw [tot_one, blk_zero hn64, hmac_same (Y := X) (fun i _ => by simp [jn, cat, tot]), ← HD.out] at cm
            rw [if_pos (by kernel_rfl)]
            go_simp
            refine cm.mono ?_
            rintro _ wz ⟨rfl, hbz⟩
            have HZ : Hid (Below w8.heap.size w8 wz) := ch bel331.out hbz
            refine hK.out _ _ (H8.out.1.below HZ.out).range (fun hS => ?_)
            clear hK K' hbz cm pp bw
            refine wpAnyH_take (i := 13) (v := ?_) (by simp only [List.getElem?_toArray, List.getElem?_cons_zero, List.getElem?_cons_succ]; rfl) (by kernel_rfl) (by kernel_rfl) (by kernel_rfl) (by exact fun _ _ _ h => h) (Or.inl ⟨by kernel_rfl, ?_⟩) hS ?_
            rotate_left
            · intro w' _
              go_simp
              try with_reducible rfl
            refine wpAnyH_take (i := 14) (v := ?_) (by simp only [List.getElem?_toArray, List.getElem?_cons_zero, List.getElem?_cons_succ]; rfl) (by kernel_rfl) (by kernel_rfl) (by kernel_rfl) (by exact fun _ _ _ h => h) (Or.inl ⟨by rfl, ?_⟩) hS ?_
            rotate_left
            · intro w' _
              go_simp
              try with_reducible rfl
            refine wpAnyH_take (i := 15) (v := ?_) (by simp only [List.getElem?_toArray, List.getElem?_cons_zero, List.getElem?_cons_succ]; rfl) (by kernel_rfl) (by kernel_rfl) (by kernel_rfl) (by exact fun _ _ _ h => h) (Or.inl ⟨by rfl, ?_⟩) hS ?_
            rotate_left
            · intro w' _
              go_simp
              try with_reducible rfl
            refine wpAnyH_done (by kernel_rfl) ?_ _
            have HF : Hid (Below W.heap.size W wz) := ch H8.out.2 HZ.out
            clear hS HZ
            go_wp2_with fail
            go_ret
            exact ⟨rfl, HF.out⟩
          · go_simp
            have bA : Below cu307.heap.size cu307 (cu307.alloc (.cells #[.int .u8 0] 5)) := (Below.refl _ _).alloc (Nat.le_refl _) _
            have bel338 : Hid (Below w8.heap.size w8 (cu307.alloc (.cells #[.int .u8 0] 5))) := ch bel308.out bA
            have o5_339 := o5_310.alloc (.cells #[.int .u8 0] 5)
            have pr340 := (bA.block _ (lt_of_some pr309)).trans pr309
            have v8_341 : View (cu307.alloc (.cells #[.int .u8 0] 5)) (some ⟨cu307.heap.size, 0, none⟩) cu307.heap.size 0 1 (fun _ => ((0 : Nat) : Int)) := view_new1 cu307 0 (by decide) (by decide)
            have ne342 : cu307.heap.size ≠ cu304.heap.size := by have := (o5_310.lt _ rfl).2; dsimp only at this; omega
            refine hK.out _ _ (H8.out.1.below bel338.out).range (fun hS => ?_)
            clear hK K' bA bel308 o5_310 pr309
            obtain ⟨cu337, hcu⟩ : ∃ x, x = cu307.alloc (.cells #[.int .u8 0] 5) := ⟨_, rfl⟩
            rw [← hcu] at hS bel338 o5_339 v8_341 pr340 ⊢
            clear hcu
            refine wpAnyH_ready (rs := [7]) (by kernel_rfl) (by simp) ?_
            refine AllReadyH.cons (by simp only [List.getElem?_toArray, List.getElem?_cons_zero, List.getElem?_cons_succ]; rfl) (fun K' hK => ?_) AllReadyH.nil
            rw [if_pos (by kernel_rfl)]
            refine wp_append_bytes (.tmp 45) (.tmp 46) (by rfl) w8.heap.size _ 0 [] (by rfl) o5_339 Sa sb so n sc _ (by rfl) (HA.out.1.below (ch H8.out.2 bel338.out)) hSn (by omega) bel338.out.size ?_
            intro v344 cu343 own345 gr346 nn347
            have bel348 : Hid (Below w8.heap.size w8 cu343) := bel338.out.trans (grown_below gr346 o5_339 (Nat.le_refl _) bel338.out.size)
            have pr349 := (gr346.block _ (lt_of_some pr340) (fun e => own_ne_list o5_339 pr340 e.symm)).trans pr340
            have v8_350 := v8_341.of_b (fun _ => gr346.block _ (v8_341.lt (by omega)) (fun e => ne342 (by injection e)))
            replace own345 : cu343.ownsRow w8.heap.size 5 1 v344 n (vals (fun i => (S i : Int)) n) := by simpa using own345
            obtain ⟨g7_351, c7_352, rfl, hc353, _, _⟩ := own_some own345 (fun e => by have := nn347 e; simp at this)
            refine hK.out _ _ (H8.out.1.below bel348.out).range (fun hS => ?_)
            clear hK K' bel338 o5_339 v8_341 pr340 gr346 nn347
            refine wpAnyH_ready (rs := [9]) (by kernel_rfl) (by simp) ?_
            refine AllReadyH.cons (by simp only [List.getElem?_toArray, List.getElem?_cons_zero, List.getElem?_cons_succ]; rfl) (fun K' hK => ?_) AllReadyH.nil
            rw [if_pos (by kernel_rfl)]
            refine wp_append_bytes (.tmp 47) (.tmp 48) (by rfl) w8.heap.size _ n _ (by rfl) own345 (some ⟨cu307.heap.size, 0, none⟩) cu307.heap.size 0 1 1 _ (by rfl) v8_350 (fun h => by cases h) (by omega) bel348.out.size ?_
            intro v355 cu354 own356 gr357 nn358
            have bel359 : Hid (Below w8.heap.size w8 cu354) := bel348.out.trans (grown_below gr357 own345 (Nat.le_refl _) bel348.out.size)
            have pr360 := (gr357.block _ (lt_of_some pr349) (fun e => own_ne_list own345 pr349 e.symm)).trans pr349
            rw [vals_cat2] at own356
            obtain ⟨g9_361, c9_362, rfl, hc363, _, _⟩ := own_some own356 (fun e => by have := nn358 e; cases this)
            have v9_364 := own_vw own356 (fun i _ => by have := cat_lt (n := n) HS.out (fun _ => (by decide : 0 < 256)) i; omega) (by omega)
            refine hK.out _ _ (H8.out.1.below bel359.out).range (fun hS => ?_)
            clear hK K' bel348 own345 v8_350 pr349 gr357 nn358 own356
            refine wpAnyH_ready (rs := [12]) (by kernel_rfl) (by simp) ?_
            refine AllReadyH.cons (by simp only [List.getElem?_toArray, List.getElem?_cons_zero, List.getElem?_cons_succ]; rfl) (fun K' hK => ?_) AllReadyH.nil
            have bw := ch H8.out.2 bel359.out
            have pp := parts_at pr360 (HA.out.2.1.below bw) hmc HX.out
            have cm := mcodes_any _ (some ⟨g9_361, 0, none⟩) g9_361 0 (n + 1) c9_362 (cat n S (fun _ => 0)) v9_364 hc363 (cat_lt HS.out (fun _ => (by decide : 0 < 256))) _ _ _ 1 1 _ _ _ _ _ _ pp (HA.out.2.2.below bw) (by omega) (by rw [tot_one]; omega)
            rw [tot_one, blk_zero hn64, hmac_same (Y := X) (fun i _ => by simp [jn, cat, tot]), ← HD.out] at cm
            rw [if_pos (by kernel_rfl)]
            go_simp
            refine cm.mono ?_
            rintro _ wz ⟨rfl, hbz⟩
            have HZ : Hid (Below w8.heap.size w8 wz) := ch bel359.out hbz
            refine hK.out _ _ (H8.out.1.below HZ.out).range (fun hS => ?_)
            clear hK K' hbz cm pp bw
            refine wpAnyH_take (i := 13) (v := ?_) (by simp only [List.getElem?_toArray, List.getElem?_cons_zero, List.getElem?_cons_succ]; rfl) (by kernel_rfl) (by kernel_rfl) (by kernel_rfl) (by exact fun _ _ _ h => h) (Or.inl ⟨by kernel_rfl, ?_⟩) hS ?_
            rotate_left
            · intro w' _
              go_simp
              try with_reducible rfl
            refine wpAnyH_take (i := 14) (v := ?_) (by simp only [List.getElem?_toArray, List.getElem?_cons_zero, List.getElem?_cons_succ]; rfl) (by kernel_rfl) (by kernel_rfl) (by kernel_rfl) (by exact fun _ _ _ h => h) (Or.inl ⟨by rfl, ?_⟩) hS ?_
            rotate_left
            · intro w' _
              go_simp
              try with_reducible rfl
            refine wpAnyH_take (i := 15) (v := ?_) (by simp only [List.getElem?_toArray, List.getElem?_cons_zero, List.getElem?_cons_succ]; rfl) (by kernel_rfl) (by kernel_rfl) (by kernel_rfl) (by exact fun _ _ _ h => h) (Or.inl ⟨by rfl, ?_⟩) hS ?_
            rotate_left
            · intro w' _
              go_simp
              try with_reducible rfl
            refine wpAnyH_done (by kernel_rfl) ?_ _
            have HF : Hid (Below W.heap.size W wz) := ch H8.out.2 HZ.out
            clear hS HZ
            go_wp2_with fail
            go_ret
            exact ⟨rfl, HF.out⟩
        · go_simp
          have bA : Below cu304.heap.size cu304 (cu304.alloc (.cells #[.int .u8 0] 5)) := (Below.refl _ _).alloc (Nat.le_refl _) _
          have bel366 : Hid (Below w8.heap.size w8 (cu304.alloc (.cells #[.int .u8 0] 5))) := ch bel305.out bA
          have pr367 := (bA.block _ (lt_of_some pr306)).trans pr306
          have v8_368 : View (cu304.alloc (.cells #[.int .u8 0] 5)) (some ⟨cu304.heap.size, 0, none⟩) cu304.heap.size 0 1 (fun _ => ((0 : Nat) : Int)) := view_new1 cu304 0 (by decide) (by decide)
          refine hK.out _ _ (H8.out.1.below bel366.out).range (fun hS => ?_)
          clear hK K' bA bel305 pr306
          obtain ⟨cu365, hcu⟩ : ∃ x, x = cu304.alloc (.cells #[.int .u8 0] 5) := ⟨_, rfl⟩
          rw [← hcu] at hS bel366 v8_368 pr367 ⊢
          clear hcu
          refine wpAnyH_ready (rs := [5]) (by kernel_rfl) (by simp) ?_
          refine AllReadyH.cons (by simp only [List.getElem?_toArray, List.getElem?_cons_zero, List.getElem?_cons_succ]; rfl) (fun K' hK => ?_) AllReadyH.nil
          go_simp
          have bA : Below cu365.heap.size cu365 (cu365.alloc (.cells #[] 5)) := (Below.refl _ _).alloc (Nat.le_refl _) _
          have bel370 : Hid (Below w8.heap.size w8 (cu365.alloc (.cells #[] 5))) := ch bel366.out bA
          have v8_371 := v8_368.below bA
          have pr372 := (bA.block _ (lt_of_some pr367)).trans pr367
          have o5_373 := World.ownsRow_lit (base := w8.heap.size) (e := 5) (size := 1) cu365 #[] 0 bel366.out.size (by decide) rfl
          have ne374 : cu304.heap.size ≠ cu365.heap.size := by have := v8_368.lt (by omega); omega
          refine hK.out _ _ (H8.out.1.below bel370.out).range (fun hS => ?_)
          clear hK K' bA bel366 v8_368 pr367
          obtain ⟨cu369, hcu⟩ : ∃ x, x = cu365.alloc (.cells #[] 5) := ⟨_, rfl⟩
          rw [← hcu] at hS bel370 o5_373 v8_371 pr372 ⊢
          clear hcu
          refine wpAnyH_ready (rs := [7]) (by kernel_rfl) (by simp) ?_
          refine AllReadyH.cons (by simp only [List.getElem?_toArray, List.getElem?_cons_zero, List.getElem?_cons_succ]; rfl) (fun K' hK => ?_) AllReadyH.nil
          rw [if_pos (by kernel_rfl)]
          refine wp_append_bytes (.tmp 45) (.tmp 46) (by rfl) w8.heap.size _ 0 [] (by rfl) o5_373 Sa sb so n sc _ (by rfl) (HA.out.1.below (ch H8.out.2 bel370.out)) hSn (by omega) bel370.out.size ?_
          intro v376 cu375 own377 gr378 nn379
          have bel380 : Hid (Below w8.heap.size w8 cu375) := bel370.out.trans (grown_below gr378 o5_373 (Nat.le_refl _) bel370.out.size)
          have pr381 := (gr378.block _ (lt_of_some pr372) (fun e => own_ne_list o5_373 pr372 e.symm)).trans pr372
          have v8_382 := v8_371.of_b (fun _ => gr378.block _ (v8_371.lt (by omega)) (fun e => ne374 (by injection e)))
          replace own377 : cu375.ownsRow w8.heap.size 5 1 v376 n (vals (fun i => (S i : Int)) n) := by simpa using own377
          obtain ⟨g7_383, c7_384, rfl, hc385, _, _⟩ := own_some own377 (fun e => by have := nn379 e; simp at this)
          refine hK.out _ _ (H8.out.1.below bel380.out).range (fun hS => ?_)
          clear hK K' bel370 o5_373 v8_371 pr372 gr378 nn379
          refine wpAnyH_ready (rs := [9]) (by kernel_rfl) (by simp) ?_
          refine AllReadyH.cons (by simp only [List.getElem?_toArray, List.getElem?_cons_zero, List.getElem?_cons_succ]; rfl) (fun K' hK => ?_) AllReadyH.nil
          rw [if_pos (by kernel_rfl)]
          refine wp_append_bytes (.tmp 47) (.tmp 48) (by rfl) w8.heap.size _ n _ (by rfl) own377 (some ⟨cu304.heap.size, 0, none⟩) cu304.heap.size 0 1 1 _ (by rfl) v8_382 (fun h => by cases h) (by omega) bel380.out.size ?_
          intro v387 cu386 own388 gr389 nn390
          have bel391 : Hid (Below w8.heap.size w8 cu386) := bel380.out.trans (grown_below gr389 own377 (Nat.le_refl _) bel380.out.size)
          have pr392 := (gr389.block _ (lt_of_some pr381) (fun e => own_ne_list own377 pr381 e.symm)).trans pr381
          rw [vals_cat2] at own388
          obtain ⟨g9_393, c9_394, rfl, hc395, _, _⟩ := own_some own388 (fun e => by have := nn390 e; cases this)
          have v9_396 := own_vw own388 (fun i _ => by have := cat_lt (n := n) HS.out (fun _ => (by decide : 0 < 256)) i; omega) (by omega)
          refine hK.out _ _ (H8.out.1.below bel391.out).range (fun hS => ?_)
          clear hK K' bel380 own377 v8_382 pr381 gr389 nn390 own388
          refine wpAnyH_ready (rs := [12]) (by kernel_rfl) (by simp) ?_
          refine AllReadyH.cons (by simp only [List.getElem?_toArray, List.getElem?_cons_zero, List.getElem?_cons_succ]; rfl) (fun K' hK => ?_) AllReadyH.nil
          have bw := ch H8.out.2 bel391.out
          have pp := parts_at pr392 (HA.out.2.1.below bw) hmc HX.out
          have cm := mcodes_any _ (some ⟨g9_393, 0, none⟩) g9_393 0 (n + 1) c9_394 (cat n S (fun _ => 0)) v9_396 hc395 (cat_lt HS.out (fun _ => (by decide : 0 < 256))) _ _ _ 1 1 _ _ _ _ _ _ pp (HA.out.2.2.below bw) (by omega) (by rw [tot_one]; omega)
          rw [tot_one, blk_zero hn64, hmac_same (Y := X) (fun i _ => by simp [jn, cat, tot]), ← HD.out] at cm
          rw [if_pos (by kernel_rfl)]
          go_simp
          refine cm.mono ?_
          rintro _ wz ⟨rfl, hbz⟩
          have HZ : Hid (Below w8.heap.size w8 wz) := ch bel391.out hbz
          refine hK.out _ _ (H8.out.1.below HZ.out).range (fun hS => ?_)
          clear hK K' hbz cm pp bw
          refine wpAnyH_take (i := 13) (v := ?_) (by simp only [List.getElem?_toArray, List.getElem?_cons_zero, List.getElem?_cons_succ]; rfl) (by kernel_rfl) (by kernel_rfl) (by kernel_rfl) (by exact fun _ _ _ h => h) (Or.inl ⟨by kernel_rfl, ?_⟩) hS ?_
          rotate_left
          · intro w' _
            go_simp
            try with_reducible rfl
          refine wpAnyH_take (i := 14) (v := ?_) (by simp only [List.getElem?_toArray, List.getElem?_cons_zero, List.getElem?_cons_succ]; rfl) (by kernel_rfl) (by kernel_rfl) (by kernel_rfl) (by exact fun _ _ _ h => h) (Or.inl ⟨by rfl, ?_⟩) hS ?_
          rotate_left
          · intro w' _
            go_simp
            try with_reducible rfl
          refine wpAnyH_take (i := 15) (v := ?_) (by simp only [List.getElem?_toArray, List.getElem?_cons_zero, List.getElem?_cons_succ]; rfl) (by kernel_rfl) (by kernel_rfl) (by kernel_rfl) (by exact fun _ _ _ h => h) (Or.inl ⟨by rfl, ?_⟩) hS ?_
          rotate_left
          · intro w' _
            go_simp
            try with_reducible rfl
          refine wpAnyH_done (by kernel_rfl) ?_ _
          have HF : Hid (Below W.heap.size W wz) := ch H8.out.2 HZ.out
          clear hS HZ
          go_wp2_with fail
          go_ret
          exact ⟨rfl, HF.out⟩
  · have k1 : (64 : Int) < (n : Int) := by omega
    have cs := sum_one w8 Sa sb so n sc 22 1 S (HA.out.1.below H8.out.2) hsc HS.out (HA.out.2.2.below H8.out.2).first (HA.out.2.2.below H8.out.2).roots (HA.out.2.2.below H8.out.2).big
    obtain ⟨D0, hD0⟩ : ∃ D, D = digest n S := ⟨_, rfl⟩
    rw [← hD0] at cs
    have HD0 : Hid (D0 = digest n S) := hD0
    clear hD0
    go_wp2_with fail
    refine cs.mono ?_
    rintro _ w9 ⟨rfl, hb9⟩
    have b89 : Below w8.heap.size w8 w9 := ((Below.refl _ _).alloc (Nat.le_refl _) _).trans (hb9.mono (by simp))
    have hl := hash_laid w9 D0
    have H9 : Hid (HashAt ((w9.alloc (.cells Z32 24)).setRow w9.heap.size (hashA D0)) w9.heap.size D0 ∧ HashAt ((w9.alloc (.cells Z32 24)).setRow w9.heap.size (hashA D0)) w4.heap.size D ∧ Below W.heap.size W ((w9.alloc (.cells Z32 24)).setRow w9.heap.size (hashA D0))) := ⟨hl.1, H8.out.1.below (ch b89 hl.2), ch H8.out.2 (ch b89 hl.2)⟩
    clear hl hb9 b89 cs H8
    go_wp2_with (refine wpList_store_row (by rfl) 24 (.tmp 7) (.tmp 33) (by rfl) w9.heap.size (hashA D0) (by rfl) (by rfl) 24 Z32 (heap_alloc_new _ _) (hashA_info _) (Z32_hash _) (hashA_one _) ?_; change wpList _ _ _ _ _ ((w9.alloc (.cells Z32 24)).setRow w9.heap.size (hashA D0)); revert H9; generalize (w9.alloc (.cells Z32 24)).setRow w9.heap.size (hashA D0) = w10; intro H9)
    have bd : Below w10.heap.size w10 w10.drew := (Below.refl _ _).drew
    have bw : Below W.heap.size W w10.drew := H9.out.2.2.drew
    have co := mcode_one w10.drew (some ⟨w9.heap.size, 0, none⟩) w9.heap.size 0 32 32 (hb D0) ((hash_view H9.out.1).below bd) (Nat.le_refl _) (hb_lt D0) ma mb mo m mc 22 1 X (HA.out.2.1.below bw) hmc HX.out (HA.out.2.2.below bw)
    rw [HD0.out, blk_long hn, ← HD.out] at co
    have H10 : Hid (Below w10.heap.size w10 (w10.drew.alloc (.cells #[.slice ma m mc] 22))) := bd.alloc (Nat.le_refl _) _
    refine wp_region_held_drew (S := fun w' => w'.rangeAt w4.heap.size 0 (hashL D)) (by kernel_rfl) (H9.out.2.1.below bd).range ?_
    intro hS
    change wpAnyH _ _ _ _ _ 7 _ _ _
    clear bd bw
    refine wpAnyH_take (i := 0) (by simp only [List.getElem?_toArray, List.getElem?_cons_zero]; rfl) (by kernel_rfl) (by kernel_rfl) (by kernel_rfl) (by exact fun _ _ _ h => h) (yieldsIf_load_mid (by rfl) _ _ rfl _ _ rfl _ _ (fun _ h => h) Tryd.underlying24 rfl (hashL_len _)) hS ?_
    refine wpAnyH_take (i := 1) (v := ?_) (by simp only [List.getElem?_toArray, List.getElem?_cons_zero, List.getElem?_cons_succ]; rfl) (by kernel_rfl) (by kernel_rfl) (by kernel_rfl) (by exact fun _ _ _ h => h) (Or.inl ⟨by rfl, ?_⟩) hS ?_
    rotate_left
    · intro w' _
      go_simp
      try with_reducible rfl
    refine wpAnyH_take (i := 2) (v := ?_) (by simp only [List.getElem?_toArray, List.getElem?_cons_zero, List.getElem?_cons_succ]; rfl) (by kernel_rfl) (by kernel_rfl) (by kernel_rfl) (by exact fun _ _ _ h => h) (Or.inl ⟨by rfl, ?_⟩) hS ?_
    rotate_left
    · intro w' _
      go_simp
      try with_reducible rfl
    refine wpAnyH_ready (rs := [3]) (by kernel_rfl) (by simp) ?_
    refine AllReadyH.cons (by simp only [List.getElem?_toArray, List.getElem?_cons_zero, List.getElem?_cons_succ]; rfl) (fun K' hK => ?_) AllReadyH.nil
    go_simp
    refine hK.out _ _ (H9.out.2.1.below H10.out).range (fun _ => ?_)
    clear hK K'
    refine wpAnyH_ready (rs := [4]) (by kernel_rfl) (by simp) ?_
    refine AllReadyH.cons (by simp only [List.getElem?_toArray, List.getElem?_cons_zero, List.getElem?_cons_succ]; rfl) (fun K' hK => ?_) AllReadyH.nil
    go_simp
    refine co.mono ?_
    rintro _ w11 ⟨rfl, hb11⟩
    have H11 : Hid (Below w10.heap.size w10 w11) := Below.trans (Below.drew (Below.refl _ _)) hb11
    refine hK.out _ _ (H9.out.2.1.below H11.out).range (fun hS => ?_)
    clear hK K' hb11 co H10
    refine wpAnyH_take (i := 5) (v := ?_) (by simp only [List.getElem?_toArray, List.getElem?_cons_zero, List.getElem?_cons_succ]; rfl) (by kernel_rfl) (by kernel_rfl) (by kernel_rfl) (by exact fun _ _ _ h => h) (Or.inl ⟨by rfl, ?_⟩) hS ?_
    rotate_left
    · intro w' _
      go_simp
      try with_reducible rfl
    refine wpAnyH_take (i := 6) (v := ?_) (by simp only [List.getElem?_toArray, List.getElem?_cons_zero, List.getElem?_cons_succ]; rfl) (by kernel_rfl) (by kernel_rfl) (by kernel_rfl) (by exact fun _ _ _ h => h) (Or.inl ⟨by rfl, ?_⟩) hS ?_
    rotate_left
    · intro w' _
      go_simp
      try with_reducible rfl
    refine wpAnyH_done (by kernel_rfl) ?_ _
    have HF : Hid (Below W.heap.size W w11) := ch H9.out.2.2 H11.out
    clear hS H9 H11
    go_wp2_with fail
    go_ret
    exact ⟨rfl, HF.out⟩
end Go.Proofs.YtleabfmlokjllaaDoor
