import Derived.Test.YtlhllbggnpcoaaaDoorPlc
/-
  mac: New.
-/
namespace Go.Proofs.YtlhllbggnpcoaaaDoor
open Go.RowKit

/-- sixty-four bytes in a block of their own -/
def BlkAt (w : World) (g : Nat) (B : Nat → Nat) : Prop := w.heap[g]? = some (.cells (blkA B) 95 (0, 0))
theorem BlkAt.lt {w : World} {g : Nat} {B : Nat → Nat} (h : BlkAt w g B) : g < w.heap.size := by
  by_cases e : g < w.heap.size
  · exact e
  · have hn : w.heap[g]? = none := by simp; omega
    unfold BlkAt at h
    rw [hn] at h
    cases h
theorem BlkAt.below {w w' : World} {g : Nat} {B : Nat → Nat} (h : BlkAt w g B) (hb : Below w.heap.size w w') : BlkAt w' g B := (hb.block g h.lt).trans h
theorem BlkAt.cells {w : World} {g : Nat} {B : Nat → Nat} (h : BlkAt w g B) : ∀ i, i < 64 → w.cell? ⟨g, 0 + i, none⟩ = some (.int .u8 (B i)) := fun i hi => by
  rw [Nat.zero_add, cell_of_row w g i _ 95 _ h, blkA_cell B i hi]
theorem BlkAt.range {w : World} {g : Nat} {B : Nat → Nat} (h : BlkAt w g B) : w.rangeAt g 0 (blkL B) := blk_range h.cells
theorem BlkAt.view {w : World} {g : Nat} {B : Nat → Nat} (h : BlkAt w g B) (hB : ∀ i, B i < 256) : View w (some ⟨g, 0, none⟩) g 0 64 (fun i => (B i : Int)) :=
  ⟨fun _ => rfl, h.cells, fun i _ => by have := hB i; omega, by omega⟩
theorem blk_laid (w : World) (B : Nat → Nat) : BlkAt ((w.alloc (.cells Y64 95)).setRow w.heap.size (blkA B)) w.heap.size B ∧ Below w.heap.size w ((w.alloc (.cells Y64 95)).setRow w.heap.size (blkA B)) :=
  ⟨setRow_heap _ _ _ _ _ _ (heap_alloc_new _ _), below_setRow ((Below.refl _ _).alloc (Nat.le_refl _) _) (Nat.le_refl _) _⟩

set_option maxRecDepth 100000 in
set_option maxHeartbeats 1600000 in
theorem mnew_any (w : World) (A : Option Addr) (b off n c : Nat) (S : Nat → Nat) (hv : View w A b off n (fun i => (S i : Int))) (hc : n ≤ c) (hS : ∀ i, S i < 256) (hG : Ground w) :
    Calls Tryd.prog 62 #[.slice A n c] w fun e w' => ∃ q, e = .returned (.pointer (some ⟨q, 0, none⟩)) ∧ w.heap.size ≤ q ∧ Kd w' q (blk n S) 0 (fun _ => 0) ∧ Below w.heap.size w w' := by
  have z64 := (zero_of_info info64).1
  have hB : ∀ i, blk n S i < 256 := blk_lt hS
  have cb := blockOf_any w A b off n c S hv hc hS hG
  obtain ⟨B, hBe⟩ : ∃ B, B = blk n S := ⟨_, rfl⟩
  rw [← hBe] at hB cb ⊢
  have HG : Hid (Ground w) := hG
  clear hv hG hBe
  go_enter Tryd.func62, Tryd.ntmps62
  go_wp2_with fail
  refine cb.mono ?_
  rintro _ w1 ⟨rfl, hb1⟩
  have hl := blk_laid w1 B
  have HX : Hid (BlkAt ((w1.alloc (.cells Y64 95)).setRow w1.heap.size (blkA B)) w1.heap.size B ∧ Below w.heap.size w ((w1.alloc (.cells Y64 95)).setRow w1.heap.size (blkA B))) := ⟨hl.1, ch hb1 hl.2⟩
  clear hl hb1 cb
  obtain ⟨g3, hg3⟩ : ∃ g, g = w1.heap.size := ⟨_, rfl⟩
  go_wp2_with (first
    | (refine wpList_store_row (by rfl) 95 (.tmp 3) (.tmp 7) (by rfl) w1.heap.size (blkA B) (by rfl) (by rfl) 95 Y64 (heap_alloc_new _ _) (blkA_info _) (Y64_blk _) (blkA_one _) ?_; change wpList _ _ _ _ _ ((w1.alloc (.cells Y64 95)).setRow w1.heap.size (blkA B)); revert HX; generalize (w1.alloc (.cells Y64 95)).setRow w1.heap.size (blkA B) = w2; intro HX)
    | refine wpList_load_row (by rfl) 95 (.tmp 3) (by rfl) w1.heap.size (by rfl) 95 (blkA B) (0, 0) _ HX.out.1 Tryd.underlying95 (by rfl) (blkA_info B) ?_)
  refine (masked_any w2 B hB 54 (by decide)).mono ?_
  rintro _ w3 ⟨rfl, hb3⟩
  have hl := blk_laid w3 (msk 54 B)
  have HY : Hid (BlkAt ((w3.alloc (.cells Y64 95)).setRow w3.heap.size (blkA (msk 54 B))) w3.heap.size (msk 54 B) ∧ BlkAt ((w3.alloc (.cells Y64 95)).setRow w3.heap.size (blkA (msk 54 B))) w1.heap.size B ∧ Below w.heap.size w ((w3.alloc (.cells Y64 95)).setRow w3.heap.size (blkA (msk 54 B)))) :=
    ⟨hl.1, HX.out.1.below (ch hb3 hl.2), HX.out.2.trans ((ch hb3 hl.2).mono HX.out.2.size)⟩
  clear hl hb3 HX
  go_wp2_with (refine wpList_store_row (by rfl) 95 (.tmp 4) (.tmp 9) (by rfl) w3.heap.size (blkA (msk 54 B)) (by rfl) (by rfl) 95 Y64 (heap_alloc_new _ _) (blkA_info _) (Y64_blk _) (blkA_one _) ?_; change wpList _ _ _ _ _ ((w3.alloc (.cells Y64 95)).setRow w3.heap.size (blkA (msk 54 B))); revert HY; generalize (w3.alloc (.cells Y64 95)).setRow w3.heap.size (blkA (msk 54 B)) = w4; intro HY)
  have bd4 : Below w4.heap.size w4 w4.drew := (Below.refl _ _).drew
  have r0 : w4.drew.rangeAt w1.heap.size 0 (blkL B) := (HY.out.2.1.below bd4).range
  have cn := new_any w4.drew ((HG.out.below HY.out.2.2).below bd4).first
  clear bd4
  refine wp_region_held_drew (S := fun w' => w'.rangeAt w1.heap.size 0 (blkL B)) (by kernel_rfl) r0 ?_
  intro hS
  change wpAnyH _ _ _ _ _ 8 _ _ _
  refine wpAnyH_take (i := 3) (by simp only [List.getElem?_toArray, List.getElem?_cons_zero, List.getElem?_cons_succ]; rfl) (by kernel_rfl) (by kernel_rfl) (by kernel_rfl) (by exact fun _ _ _ h => h) (yieldsIf_load_mid (by rfl) _ _ rfl _ _ rfl _ _ (fun _ h => h) Tryd.underlying95 rfl (blkL_len _)) hS ?_
  refine wpAnyH_ready (rs := [0]) (by kernel_rfl) (by simp) ?_
  refine AllReadyH.cons (by simp only [List.getElem?_toArray, List.getElem?_cons_zero]; rfl) (fun K hK => ?_) AllReadyH.nil
  go_simp
  refine cn.mono ?_
  rintro _ w5 ⟨rfl, st5, hb5⟩
  have b45 : Below w4.heap.size w4 w5 := Below.trans (Below.drew (Below.refl _ _)) hb5
  obtain ⟨R, hr, hR, _⟩ := st5.ex
  have r1 : w5.rangeAt w1.heap.size 0 (blkL B) := (HY.out.2.1.below b45).range
  have r2 : w5.rangeAt w4.heap.size 0 (stL H0 R 0) := StRow.range hr
  have hbu := built61 H0 R 0 (msk 92 B)
  have HR : Hid (StRow E0 w5 w4.heap.size H0 R 0 ∧ (∀ i, R i < 256) ∧ Below w4.heap.size w4 w5) := ⟨hr, hR, b45⟩
  clear hR hb5 hr st5 cn b45
  refine hK.out _ _ r1 (fun _ => ?_)
  clear hK K hS
  refine wpAnyH_weaken (S' := fun w' => w'.rangeAt w4.heap.size 0 (stL H0 R 0) ∧ w'.rangeAt w1.heap.size 0 (blkL B)) (fun _ h => h.2) _ _ _ _ ?_
  have hS : w5.rangeAt w4.heap.size 0 (stL H0 R 0) ∧ w5.rangeAt w1.heap.size 0 (blkL B) := ⟨r2, r1⟩
  refine wpAnyH_take (i := 1) (v := ?_) (by simp only [List.getElem?_toArray, List.getElem?_cons_zero, List.getElem?_cons_succ]; rfl) (by kernel_rfl) (by kernel_rfl) (by kernel_rfl) (by exact fun _ _ _ h => h) (Or.inl ⟨by rfl, ?_⟩) hS ?_
  rotate_left
  · intro w' _
    go_simp
    try with_reducible rfl
  refine wpAnyH_take (i := 2) (by simp only [List.getElem?_toArray, List.getElem?_cons_zero, List.getElem?_cons_succ]; rfl) (by kernel_rfl) (by kernel_rfl) (by kernel_rfl) (by exact fun _ _ _ h => h) (yieldsIf_load_mid (by rfl) _ _ rfl _ _ rfl _ _ (fun _ h => h.1) Tryd.underlying97 rfl (stL_len _ _ _)) hS ?_
  refine wpAnyH_ready (rs := [4]) (by kernel_rfl) (by simp) ?_
  refine AllReadyH.cons (by simp only [List.getElem?_toArray, List.getElem?_cons_zero, List.getElem?_cons_succ]; rfl) (fun K hK => ?_) AllReadyH.nil
  go_simp
  refine (masked_any w5 B hB 92 (by decide)).mono ?_
  rintro _ w6 ⟨rfl, hb6⟩
  have b46 : Below w4.heap.size w4 w6 := ch HR.out.2.2 hb6
  have r3 : w6.rangeAt w1.heap.size 0 (blkL B) := (HY.out.2.1.below b46).range
  have r4 : w6.rangeAt w4.heap.size 0 (stL H0 R 0) := StRow.range (E := E0) (World.rowIs.of_block HR.out.1 (hb6.block _ HR.out.1.lt))
  refine hK.out _ _ ⟨r4, r3⟩ (fun hS => ?_)
  clear hK K r1 r2
  refine wpAnyH_take (i := 5) (by simp only [List.getElem?_toArray, List.getElem?_cons_zero, List.getElem?_cons_succ]; rfl) (by kernel_rfl) (by kernel_rfl) (by kernel_rfl) (by exact fun _ _ _ h => h) (yieldsIf_build (by rfl) _ _ rfl _ (by simp only [List.map_toArray, List.map_cons, List.map_nil]; exact hbu)) hS ?_
  refine wpAnyH_ready (rs := [6]) (by kernel_rfl) (by simp) ?_
  refine AllReadyH.cons (by simp only [List.getElem?_toArray, List.getElem?_cons_zero, List.getElem?_cons_succ]; rfl) (fun K hK => ?_) AllReadyH.nil
  go_simp
  refine hK.out _ _ ⟨World.rangeAt_alloc r4 _, World.rangeAt_alloc r3 _⟩ (fun hS => ?_)
  clear hK K
  refine wpAnyH_take (i := 7) (v := ?_) (by simp only [List.getElem?_toArray, List.getElem?_cons_zero, List.getElem?_cons_succ]; rfl) (by kernel_rfl) (by kernel_rfl) (by kernel_rfl) (by exact fun _ _ _ h => h) (Or.inl ⟨by rfl, ?_⟩) hS ?_
  rotate_left
  · intro w' _
    go_simp
    try with_reducible rfl
  refine wpAnyH_done (by kernel_rfl) ?_ _
  have HB : Hid (Below w4.heap.size w4 w6) := b46
  have st7 : StG (EK (msk 92 B)) (w6.alloc (.cells (kA H0 R 0 (msk 92 B)) 128)) w6.heap.size 0 (fun _ => 0) := ⟨⟨R, ⟨_, heap_alloc_new w6 _, kA_size _ _ _ _, fun i hi => kA_cell _ _ _ _ i hi⟩, HR.out.2.1, fun i hi => absurd hi (by omega)⟩, fun _ => by decide⟩
  have b7 : Below w4.heap.size w4 (w6.alloc (.cells (kA H0 R 0 (msk 92 B)) 128)) := b46.alloc b46.size _
  have f6 : w4.heap.size ≤ w6.heap.size := b46.size
  have lt3 := HY.out.1.lt
  clear r0 r3 r4 hS hbu b46 hb6 HR HB
  revert st7 b7
  generalize w6.alloc (.cells (kA H0 R 0 (msk 92 B)) 128) = w7
  intro st7 b7
  have bd7 : Below w7.heap.size w7 w7.drew := (Below.refl _ _).drew
  have G7 := (HG.out.below HY.out.2.2).below (ch b7 bd7)
  have cw := write_any w7.drew w6.heap.size 0 _ (st7.below bd7) (some ⟨w3.heap.size, 0, none⟩) w3.heap.size 0 64 64 (msk 54 B) ((HY.out.1.below (ch b7 bd7)).view (msk_lt (by decide) hB)) (msk_lt (by decide) hB) (fun _ => by omega) (by decide) G7.roots G7.big (by have := HG.out.big; have := HY.out.2.2.size; omega) (by decide)
  have HB7 : Hid (Below w.heap.size w w7 ∧ w.heap.size ≤ w6.heap.size) := ⟨HY.out.2.2.trans (b7.mono HY.out.2.2.size), Nat.le_trans HY.out.2.2.size f6⟩
  clear bd7 G7 b7 st7 f6 lt3 HY
  go_wp2_with fail
  go_region_with (go_at_call 39; refine cw.mono ?_; rintro _ w8 ⟨rfl, hs8, st8⟩)
  have HK : Hid (Kd w8 w6.heap.size B 0 (fun _ => 0) ∧ Below w.heap.size w w8) := ⟨⟨st8.congr (cat_lt (msk_lt (by decide) hB) (fun _ => by decide)) (fun i hi => by
    unfold cat
    rw [if_neg (by omega), if_pos (by omega)]
    rfl), hB, fun _ => by decide⟩, (HB7.out.1.drew).trans (hs8.below HB7.out.2 HB7.out.1.size)⟩
  clear hs8 st8 cw
  go_wp2_with fail
  go_ret
  exact ⟨w6.heap.size, rfl, HB7.out.2, HK.out.1, HK.out.2⟩
end Go.Proofs.YtlhllbggnpcoaaaDoor
