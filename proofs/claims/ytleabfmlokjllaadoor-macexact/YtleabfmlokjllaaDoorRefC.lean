/-
  The reference's code.
-/
import Derived.Test.YtleabfmlokjllaaDoorBlkR
namespace Go.Proofs.YtleabfmlokjllaaDoor
open Go.RowKit

theorem view_own2 {w' : World} {B : Nat} {v : Value} {n : Nat} {Y : Nat → Int} (h : w'.ownsRow B 5 1 v n (vals Y n)) (hb : ∀ i, i < n → 0 ≤ Y i ∧ Y i ≤ 255) (hn : n ≤ 281474976710656) :
    ∃ a g c, v = .slice a n c ∧ View w' a g 0 n Y ∧ n ≤ c ∧ (a = none → c = 0) ∧ (0 < n → B ≤ g) := by
  rcases h.2 with ⟨rfl, h0⟩ | ⟨g, cap, cur, rfl, hlt, hcs⟩
  · subst h0
    exact ⟨none, 0, 0, rfl, view_empty _ _ _ _ _ _ rfl, by omega, fun _ => rfl, fun h => absurd h (by omega)⟩
  · refine ⟨some ⟨g, 0, none⟩, g, cap, rfl, ⟨fun _ => rfl, fun i hi => ?_, hb, hn⟩, hcs.2.1, (fun h => by cases h), fun _ => hlt⟩
    rw [Nat.zero_add, h.cellAt i (by omega)]
    simp [vals, hi]
theorem vals_cat (n m : Nat) (X Y : Nat → Nat) : vals (fun i => (X i : Int)) n ++ vals (fun i => (Y i : Int)) m = vals (fun i => ((cat n X Y i : Nat) : Int)) (n + m) := by
  rw [← vals_app (fun i => ((cat n X Y i : Nat) : Int)) n m (fun i => (Y i : Int)) (fun i _ => by unfold cat; rw [if_neg (by omega), show n + i - n = i by omega])]
  congr 1
  exact vals_congr (fun i hi => by unfold cat; rw [if_pos hi])

set_option maxRecDepth 100000 in
set_option maxHeartbeats 1600000 in
theorem rcode_any (w : World) (a : Option Addr) (b off n c : Nat) (S : Nat → Nat) (hv : View w a b off n (fun i => (S i : Int))) (hS : ∀ i, S i < 256) (hnil : a = none → c = 0) (hn : n ≤ 1099511627776)
    (a2 : Option Addr) (b2 off2 m c2 : Nat) (X : Nat → Nat) (hv2 : View w a2 b2 off2 m (fun i => (X i : Int))) (hX : ∀ i, X i < 256) (hnil2 : a2 = none → c2 = 0) (hm : m ≤ 549755813888) (hG : Gr w) :
    Calls Tryd.prog 23 #[.slice a n c, .slice a2 m c2] w fun e w' => e = .returned (.agg (hashA (hmac (blk n S) m X))) ∧ Below w.heap.size w w' := by
  have b1 : Below w.heap.size w (w.alloc (.cells Z32 24)) := (Below.refl _ _).alloc (Nat.le_refl _) _
  have cb := rblock_any (w.alloc (.cells Z32 24)) a b off n c S (hv.below b1) hS 54 (by decide) (hG.below b1) hnil hn
  have hB := blk_lt (n := n) hS
  have HV : Hid (View w a b off n (fun i => (S i : Int)) ∧ View w a2 b2 off2 m (fun i => (X i : Int)) ∧ Gr w) := ⟨hv, hv2, hG⟩
  have HO : Hid (Below w.heap.size w (w.alloc (.cells Z32 24)) ∧ (w.alloc (.cells Z32 24)).heap[w.heap.size]? = some (.cells Z32 24 (0, 0))) := ⟨b1, heap_alloc_new _ _⟩
  clear b1 hv hv2 hG
  rw [World.size_alloc] at cb
  go_enter Tryd.func23, Tryd.ntmps23
  go_wp2_with fail
  refine cb.mono ?_
  rintro _ w1 ⟨rfl, own1, hb1⟩
  have s1 : w.heap.size + 1 ≤ w1.heap.size := by have := hb1.size; rw [World.size_alloc] at this; exact this
  have b1 : Below w.heap.size w w1 := HO.out.1.trans (hb1.mono (by omega))
  have o1 : w1.heap[w.heap.size]? = some (.cells Z32 24 (0, 0)) := (hb1.block _ (by omega)).trans HO.out.2
  have HV2 : Hid (View w1 a2 b2 off2 m (fun i => (X i : Int))) := HV.out.2.1.below b1
  have HO1 : Hid (Below w.heap.size w w1 ∧ w1.heap[w.heap.size]? = some (.cells Z32 24 (0, 0))) := ⟨b1, o1⟩
  clear b1 o1 hb1 cb HO
  go_wp2_with (refine wpList_append_bytes (by rfl) (.tmp 9) (.tmp 10) (by rfl) (w.heap.size + 1) _ 64 _ (by rfl) own1 a2 b2 off2 m c2 _ (by rfl) HV2.out hnil2 (by omega) s1 ?_)
  intro v2 w2 own2 gr2 nn2
  rw [vals_cat] at own2
  have b12 : Below (w.heap.size + 1) w1 w2 := grown_below gr2 own1 (Nat.le_refl _) s1
  have b2' : Below w.heap.size w w2 := HO1.out.1.trans (b12.mono (by omega))
  have o2 : w2.heap[w.heap.size]? = some (.cells Z32 24 (0, 0)) := (b12.block _ (by omega)).trans HO1.out.2
  obtain ⟨a3, g3, c3, rfl, v3, hc3, hnil3, _⟩ := view_own2 own2 (fun i _ => by have := cat_lt (n := 64) (msk_lt (x := 54) (by decide) hB) hX i; omega) (by omega)
  have cs := rsum_any w2 a3 g3 0 (64 + m) c3 _ v3 (cat_lt (msk_lt (by decide) hB) hX) hnil3 (by omega) (HV.out.2.2.below b2').rounds (HV.out.2.2.below b2').rbig
  obtain ⟨D, hD⟩ : ∃ D, D = digest (64 + m) (cat 64 (msk 54 (blk n S)) X) := ⟨_, rfl⟩
  rw [← hD] at cs
  have HM : Hid (digest 96 (cat 64 (msk 92 (blk n S)) (hb D)) = hmac (blk n S) m X) := by unfold hmac; rw [hD]; rfl
  have HO2 : Hid (Below w.heap.size w w2 ∧ w2.heap[w.heap.size]? = some (.cells Z32 24 (0, 0))) := ⟨b2', o2⟩
  clear hD own1 own2 gr2 nn2 b12 b2' o2 v3 HO1 HV2 s1
  go_wp2_with fail
  refine cs.mono ?_
  rintro _ w3 ⟨rfl, hb3⟩
  have hl := hash_laid w3 D
  have HX : Hid (HashAt ((w3.alloc (.cells Z32 24)).setRow w3.heap.size (hashA D)) w3.heap.size D ∧ Below w.heap.size w ((w3.alloc (.cells Z32 24)).setRow w3.heap.size (hashA D)) ∧ ((w3.alloc (.cells Z32 24)).setRow w3.heap.size (hashA D)).heap[w.heap.size]? = some (.cells Z32 24 (0, 0)) ∧ w.heap.size < ((w3.alloc (.cells Z32 24)).setRow w3.heap.size (hashA D)).heap.size) := by
    have lt : w.heap.size < w2.heap.size := by
      by_cases e : w.heap.size < w2.heap.size
      · exact e
      · have hn : w2.heap[w.heap.size]? = none := by simp; omega
        rw [hn] at HO2
        cases HO2.out.2
    exact ⟨hl.1, ch HO2.out.1 (ch hb3 hl.2), ((ch hb3 hl.2).block _ lt).trans HO2.out.2, Nat.lt_of_lt_of_le lt (ch hb3 hl.2).size⟩
  clear hl hb3 cs HO2
  go_wp2_with (refine wpList_store_row (by rfl) 24 (.tmp 6) (.tmp 13) (by rfl) w3.heap.size (hashA D) (by rfl) (by rfl) 24 Z32 (heap_alloc_new _ _) (hashA_info _) (Z32_hash _) (hashA_one _) ?_; change wpList _ _ _ _ _ ((w3.alloc (.cells Z32 24)).setRow w3.heap.size (hashA D)); revert HX; generalize (w3.alloc (.cells Z32 24)).setRow w3.heap.size (hashA D) = w4; intro HX)
  have bd : Below w4.heap.size w4 w4.drew := (Below.refl _ _).drew
  have bw4 : Below w.heap.size w w4.drew := HX.out.2.1.drew
  have cb := rblock_any w4.drew a b off n c S (HV.out.1.below bw4) hS 92 (by decide) (HV.out.2.2.below bw4) hnil hn
  have vh := (hash_view HX.out.1).below bd
  have HVH : Hid (View w4.drew (some ⟨w3.heap.size, 0, none⟩) w3.heap.size 0 32 (fun i => ((hb D i : Nat) : Int))) := vh
  clear vh bd bw4
  refine wp_region_held_drew (S := fun _ => True) (by kernel_rfl) trivial ?_
  intro hS
  change wpAnyH _ _ _ _ _ 5 _ _ _
  refine wpAnyH_take (i := 0) (v := ?_) (by simp only [List.getElem?_toArray, List.getElem?_cons_zero]; rfl) (by kernel_rfl) (by kernel_rfl) (by kernel_rfl) (by exact fun _ _ _ h => h) (Or.inl ⟨by rfl, ?_⟩) trivial ?_
  rotate_left
  · intro w' _
    go_simp
    try with_reducible rfl
  refine wpAnyH_take (i := 2) (v := ?_) (by simp only [List.getElem?_toArray, List.getElem?_cons_zero, List.getElem?_cons_succ]; rfl) (by kernel_rfl) (by kernel_rfl) (by kernel_rfl) (by exact fun _ _ _ h => h) (Or.inl ⟨by rfl, ?_⟩) trivial ?_
  rotate_left
  · intro w' _
    go_simp
    try with_reducible rfl
  refine wpAnyH_ready (rs := [1]) (by kernel_rfl) (by simp) ?_
  refine AllReadyH.cons (by simp only [List.getElem?_toArray, List.getElem?_cons_zero, List.getElem?_cons_succ]; rfl) (fun K hK => ?_) AllReadyH.nil
  go_simp
  refine cb.mono ?_
  rintro _ w5 ⟨rfl, own5, hb5⟩
  have HV5 : Hid (View w5 (some ⟨w3.heap.size, 0, none⟩) w3.heap.size 0 32 (fun i => ((hb D i : Nat) : Int))) := HVH.out.below hb5
  have s5 : w4.heap.size ≤ w5.heap.size := hb5.size
  have b5 : Below w4.heap.size w4 w5 := Below.trans (Below.drew (Below.refl _ _)) hb5
  refine hK.out _ _ trivial (fun _ => ?_)
  clear hK K hb5 cb HVH
  refine wpAnyH_ready (rs := [3]) (by kernel_rfl) (by simp) ?_
  refine AllReadyH.cons (by simp only [List.getElem?_toArray, List.getElem?_cons_zero, List.getElem?_cons_succ]; rfl) (fun K hK => ?_) AllReadyH.nil
  refine step_append_bytes (by rfl) (.tmp 15) (.tmp 16) (by rfl) w4.heap.size _ 64 _ (by rfl) own5 (some ⟨w3.heap.size, 0, none⟩) w3.heap.size 0 32 32 _ (by rfl) HV5.out (fun h => by cases h) (by omega) s5 ?_
  intro v6 w6 own6 gr6 nn6
  rw [vals_cat] at own6
  have b6 : Below w4.heap.size w4 w6 := b5.trans (grown_below gr6 own5 (Nat.le_refl _) s5)
  refine hK.out _ _ trivial (fun _ => ?_)
  clear hK K gr6 nn6 own5 b5 s5 HV5
  refine wpAnyH_take (i := 4) (v := ?_) (by simp only [List.getElem?_toArray, List.getElem?_cons_zero, List.getElem?_cons_succ]; rfl) (by kernel_rfl) (by kernel_rfl) (by kernel_rfl) (by exact fun _ _ _ h => h) (Or.inl ⟨by rfl, ?_⟩) trivial ?_
  rotate_left
  · intro w' _
    go_simp
    try with_reducible rfl
  refine wpAnyH_done (by kernel_rfl) ?_ _
  obtain ⟨a7, g7, c7, rfl, v7, hc7, hnil7, _⟩ := view_own2 own6 (fun i _ => by have := cat_lt (n := 64) (msk_lt (x := 92) (by decide) hB) (hb_lt D) i; omega) (by decide)
  have bw6 : Below w.heap.size w w6 := ch HX.out.2.1 b6
  have cs := rsum_any w6 a7 g7 0 (64 + 32) c7 _ v7 (cat_lt (msk_lt (by decide) hB) (hb_lt D)) hnil7 (by decide) (HV.out.2.2.below bw6).rounds (HV.out.2.2.below bw6).rbig
  rw [show (64 + 32 : Nat) = 96 from rfl, HM.out] at cs
  have HZ : Hid (Below w.heap.size w w6 ∧ w6.heap[w.heap.size]? = some (.cells Z32 24 (0, 0)) ∧ w.heap.size < w6.heap.size) := ⟨bw6, (b6.block _ HX.out.2.2.2).trans HX.out.2.2.1, Nat.lt_of_lt_of_le HX.out.2.2.2 b6.size⟩
  clear own6 v7 b6 bw6 HX
  go_wp2_with fail
  refine cs.mono ?_
  rintro _ w8 ⟨rfl, hb8⟩
  have HQ : Hid (Below w.heap.size w w8 ∧ w8.heap[w.heap.size]? = some (.cells Z32 24 (0, 0))) := ⟨ch HZ.out.1 hb8, (hb8.block _ HZ.out.2.2).trans HZ.out.2.1⟩
  clear hb8 cs HZ
  obtain ⟨E, hE⟩ : ∃ E, E = hmac (blk n S) m X := ⟨_, rfl⟩
  rw [← hE]
  have HE : Hid (E = hmac (blk n S) m X) := hE
  clear hE HM
  go_wp2_with (refine wpList_store_row (by rfl) 24 (.tmp 4) (.tmp 19) (by rfl) w.heap.size (hashA E) (by rfl) (by rfl) 24 Z32 HQ.out.2 (hashA_info _) (Z32_hash _) (hashA_one _) ?_)
  refine bodyPost_ret (v := .agg (hashA E)) ?_ rfl ?_
  · exact results_cell_row rfl _ _ w.heap.size 24 (hashA E) (0, 0) _ rfl (setRow_heap _ _ _ _ _ _ HQ.out.2) Tryd.underlying24 rfl (hashA_info _)
  · exact ⟨by rw [HE.out], below_setRow HQ.out.1 (Nat.le_refl _) _⟩
end Go.Proofs.YtleabfmlokjllaaDoor
