import Derived.Test.YtlhllbggnpcoaaaGreatDoorMacB
/-
  mac: a code on its way, in memory.
-/
namespace Go.Proofs.YtlhllbggnpcoaaaGreatDoor
open Go.RowKit

def EK (O : Nat → Nat) : Env := ⟨150, 137, fun i => .int .u8 (O (i - 73)), by omega⟩
def stL (s : W8) (R : Nat → Nat) (n : Nat) : List Value := (List.range 73).map (stc E0.tl s R n)
def blkL (B : Nat → Nat) : List Value := (List.range 64).map (fun i => Value.int .u8 (B i))
/-- all cells of a code on its way -/
def kA (s : W8) (R : Nat → Nat) (n : Nat) (O : Nat → Nat) : Array Value := ((List.range 137).map (stc (EK O).tl s R n)).toArray
theorem kA_size (s : W8) (R : Nat → Nat) (n : Nat) (O : Nat → Nat) : (kA s R n O).size = 137 := by simp [kA]
theorem kA_cell (s : W8) (R : Nat → Nat) (n : Nat) (O : Nat → Nat) : ∀ i, i < 137 → (kA s R n O)[i]? = some (stc (EK O).tl s R n i) := by
  intro i hi
  unfold kA
  rw [List.getElem?_toArray, List.getElem?_map, List.getElem?_range hi]
  rfl
set_option maxRecDepth 100000 in
theorem built61 (s : W8) (R : Nat → Nat) (n : Nat) (O : Nat → Nat) : Tryz.prog.built 150 [(0, .agg (stL s R n).toArray), (1, .agg (blkA O))] = some (kA s R n O) := by kernel_rfl
theorem stL_len (s : W8) (R : Nat → Nat) (n : Nat) : (Tryz.prog.info? 117).map (·.size) = some (stL s R n).length := by
  unfold stL
  simp only [List.length_map, List.length_range]
  exact (zero_of_info info54).2
theorem blkL_len (B : Nat → Nat) : (Tryz.prog.info? 115).map (·.size) = some (blkL B).length := by
  unfold blkL
  simp only [List.length_map, List.length_range]
  exact info64s
theorem StRow.range {E : Env} {w : World} {p : Nat} {s : W8} {R : Nat → Nat} {n : Nat} (h : StRow E w p s R n) : w.rangeAt p 0 (stL s R n) := by
  intro j v hj
  have hl : j < 73 := by
    have := (List.getElem?_eq_some_iff.1 hj).1
    simpa [stL] using this
  rw [Nat.zero_add, StRow.part h j (by rw [stA_size]; exact hl)]
  unfold stA
  rw [List.getElem?_toArray]
  exact hj
/-- sixty-four bytes from a place on -/
theorem blk_range {w : World} {g o : Nat} {B : Nat → Nat} (h : ∀ i, i < 64 → w.cell? ⟨g, o + i, none⟩ = some (.int .u8 (B i))) : w.rangeAt g o (blkL B) := by
  intro j v hj
  have hl : j < 64 := by
    have := (List.getElem?_eq_some_iff.1 hj).1
    simpa [blkL] using this
  rw [h j hl]
  unfold blkL at hj
  rw [List.getElem?_map, List.getElem?_range hl] at hj
  exact hj

theorem cat_assoc (a m : Nat) (I X Y : Nat → Nat) : cat (a + m) (cat a I X) Y = cat a I (cat m X Y) := by
  funext i
  unfold cat
  by_cases h1 : i < a
  · rw [if_pos (by omega), if_pos h1, if_pos h1]
  · rw [if_neg h1]
    by_cases h2 : i - a < m
    · rw [if_pos (by omega), if_neg h1, if_pos h2]
    · rw [if_neg (by omega), if_neg h1, if_neg h2, show i - (a + m) = i - a - m by omega]

/-- A CODE ON ITS WAY, AT p: the secret's block B, the m bytes X. -/
structure Kd (w : World) (p : Nat) (B : Nat → Nat) (m : Nat) (X : Nat → Nat) : Prop where
  st : StG (EK (msk 92 B)) w p (64 + m) (cat 64 (msk 54 B) X)
  bd : ∀ i, B i < 256
  bx : ∀ i, X i < 256
theorem Kd.lt {w : World} {p : Nat} {B : Nat → Nat} {m : Nat} {X : Nat → Nat} (h : Kd w p B m X) : p < w.heap.size := h.st.lt
theorem Kd.below {w w' : World} {p : Nat} {B : Nat → Nat} {m : Nat} {X : Nat → Nat} (h : Kd w p B m X) (hb : Below w.heap.size w w') : Kd w' p B m X := ⟨h.st.below hb, h.bd, h.bx⟩
theorem Kd.save {w w' : World} {p q : Nat} {B : Nat → Nat} {m : Nat} {X : Nat → Nat} (h : Kd w p B m X) (hb : Save q w w') (hp : p ≠ q) : Kd w' p B m X := ⟨h.st.save hb hp, h.bd, h.bx⟩
theorem Kd.congr {w : World} {p : Nat} {B : Nat → Nat} {m : Nat} {X Y : Nat → Nat} (h : Kd w p B m X) (hY : ∀ i, Y i < 256) (e : ∀ i, i < m → X i = Y i) : Kd w p B m Y :=
  ⟨h.st.congr (cat_lt (msk_lt (by decide) h.bd) hY) (fun i hi => by
    unfold cat
    by_cases h1 : i < 64
    · rw [if_pos h1, if_pos h1]
    · rw [if_neg h1, if_neg h1, e _ (by omega)]), h.bd, hY⟩
theorem Kd.outer {w : World} {p : Nat} {B : Nat → Nat} {m : Nat} {X : Nat → Nat} (h : Kd w p B m X) : ∀ i, i < 64 → w.cell? ⟨p, 73 + i, none⟩ = some (.int .u8 (msk 92 B i)) := by
  intro i hi
  obtain ⟨R, r, _⟩ := h.st.ex
  rw [World.rowIs.cell r (i := 73 + i) (by show 73 + i < 137; omega)]
  unfold stc
  rw [if_neg (by omega), if_neg (by omega), if_neg (by omega)]
  show some (Value.int .u8 (msk 92 B (73 + i - 73) : Nat)) = _
  rw [show 73 + i - 73 = i by omega]
/-- the code of m bytes X under the block B -/
def hmac (B : Nat → Nat) (m : Nat) (X : Nat → Nat) : W8 := digest 96 (cat 64 (msk 92 B) (hb (digest (64 + m) (cat 64 (msk 54 B) X))))

set_option maxRecDepth 100000 in
theorem mwrite_any (w : World) (p : Nat) (B : Nat → Nat) (m : Nat) (X : Nat → Nat) (h : Kd w p B m X) (a : Option Addr) (b off k c : Nat) (Y : Nat → Nat) (hv : View w a b off k (fun i => (Y i : Int))) (hY : ∀ i, Y i < 256) (hbp : 0 < k → b ≠ p) (hkc : k ≤ c)
    (hG : Ground w) (hp : p ≠ 2) (hlen : 64 + m + k ≤ 1152921504606846976) :
    Calls Tryz.prog 83 #[.pointer (some ⟨p, 0, none⟩), .slice a k c] w fun e w' => e = .returned (.tuple #[]) ∧ Save p w w' ∧ Kd w' p B (m + k) (cat m X Y) := by
  have c1 := write_any w p (64 + m) _ h.st a b off k c Y hv hY hbp hkc hG.roots hG.big hp hlen
  have hb := h.bd
  have hx := h.bx
  clear h hv hG
  go_enter Tryz.func83, Tryz.ntmps83
  go_wp2_with fail
  refine c1.mono ?_
  rintro _ w1 ⟨rfl, hs, st⟩
  rw [cat_assoc, Nat.add_assoc] at st
  have HK : Hid (Save p w w1 ∧ Kd w1 p B (m + k) (cat m X Y)) := ⟨hs, st, hb, cat_lt hx hY⟩
  clear hs st c1
  go_wp2_with fail
  go_end0
  exact ⟨rfl, HK.out⟩
theorem mwrite_nil (w : World) (v : Value) : Calls Tryz.prog 83 #[.pointer none, v] w fun e w' => e = .returned (.tuple #[]) ∧ w' = w := by
  go_enter Tryz.func83, Tryz.ntmps83
  go_wp2
  refine bodyPost_ret (results_none rfl _ _ _) rfl ?_
  exact ⟨rfl, rfl⟩
theorem mcode_nil (w : World) : Calls Tryz.prog 84 #[.pointer none] w fun e w' => e = .returned (.agg Z32) ∧ Below w.heap.size w w' := by
  go_enter Tryz.func84, Tryz.ntmps84
  go_wp2_with (refine wpList_store_row rfl 31 (.tmp 2) (.tmp 6) rfl w.heap.size Z32 rfl rfl 31 Z32 (heap_alloc_new _ _) info26 rfl Z32_one ?_)
  refine bodyPost_ret (v := .agg Z32) ?_ rfl ?_
  · exact results_cell_row rfl _ _ w.heap.size 31 Z32 (0, 0) _ rfl (setRow_heap _ _ _ _ _ _ (heap_alloc_new _ _)) Tryz.underlying31 rfl info26
  · exact ⟨rfl, below_setRow ((Below.refl _ _).alloc (Nat.le_refl _) _) (Nat.le_refl _) _⟩
end Go.Proofs.YtlhllbggnpcoaaaGreatDoor

/-
  mac: Copy.
-/
namespace Go.Proofs.YtlhllbggnpcoaaaGreatDoor
open Go.RowKit

theorem kd_of {w : World} {p : Nat} {B : Nat → Nat} {m : Nat} {X R : Nat → Nat} {s : W8} (hs : s = folds (cat 64 (msk 54 B) X) ((64 + m) / 64)) (hp : w.heap[p]? = some (.cells (kA s R (64 + m) (msk 92 B)) 150 (0, 0)))
    (hR : ∀ i, R i < 256) (hq : ∀ i, i < (64 + m) % 64 → R i = cat 64 (msk 54 B) X (64 * ((64 + m) / 64) + i)) (hB : ∀ i, B i < 256) (hX : ∀ i, X i < 256) : Kd w p B m X :=
  ⟨⟨⟨R, ⟨_, hp, kA_size _ _ _ _, fun i hi => by subst hs; exact kA_cell _ _ _ _ i hi⟩, hR, hq⟩, cat_lt (msk_lt (by decide) hB) hX⟩, hB, hX⟩
theorem load64 {w : World} {g o : Nat} {B : Nat → Nat} (h : ∀ i, i < 64 → w.cell? ⟨g, o + i, none⟩ = some (.int .u8 (B i))) : (Instr.loadAt 115 (.pointer (some ⟨g, o, none⟩))).run Tryz.prog w = .ok (.agg (blkA B)) w :=
  run_loadAt_mid w g o 115 (blkL B) _ (blk_range h) Tryz.underlying115 rfl (blkL_len B)
theorem load73 {E : Env} {w : World} {p : Nat} {s : W8} {R : Nat → Nat} {n : Nat} (h : StRow E w p s R n) : (Instr.loadAt 117 (.pointer (some ⟨p, 0, none⟩))).run Tryz.prog w = .ok (.agg (stL s R n).toArray) w :=
  run_loadAt_mid w p 0 117 (stL s R n) _ (StRow.range h) Tryz.underlying117 rfl (stL_len s R n)

theorem yieldsIf_build {P : Program} {ops : Array Oper} {S : World → Prop} {op : Oper} {a : Act} (hw : Region.wanted op (yielded ops a.tmps) = true) (t : TypeId) (parts : Array (Nat × Operand)) (ho : op.op = .build t parts) (cells : Array Value)
    (hb : P.built t (parts.map fun (i, x) => (i, a.eval x)).toList = some cells) : YieldsIf P ops S op (.agg cells) a :=
  .inl ⟨hw, fun w _ => by
    unfold execOp
    simp only [ho, Sem.run_bind, run_build w t _ cells hb, Result.andThen_ok]
    rfl⟩
theorem wpAnyH_weaken {P : Program} {ops : Array Oper} {Q : Exit → Act → World → Prop} {md : Region.Mode} {S S' : World → Prop} (h : ∀ w, S' w → S w) : ∀ (fuel : Nat) (listed : Array Bool) (a : Act) (w : World), wpAnyH P md ops Q S' fuel listed a w → wpAnyH P md ops Q S fuel listed a w
  | 0, _, _, _, k => k
  | fuel + 1, _, _, _, k => ⟨k.1, fun i hi => wpOp_mono (fun a' w' h' => ⟨h w' h'.1, wpAnyH_weaken h fuel _ a' w' h'.2⟩) (k.2 i hi)⟩
end Go.Proofs.YtlhllbggnpcoaaaGreatDoor

/-
  mac: New.
-/
namespace Go.Proofs.YtlhllbggnpcoaaaGreatDoor
open Go.RowKit

/-- sixty-four bytes in a block of their own -/
def BlkAt (w : World) (g : Nat) (B : Nat → Nat) : Prop := w.heap[g]? = some (.cells (blkA B) 115 (0, 0))
theorem BlkAt.lt {w : World} {g : Nat} {B : Nat → Nat} (h : BlkAt w g B) : g < w.heap.size := by
  by_cases e : g < w.heap.size
  · exact e
  · have hn : w.heap[g]? = none := by simp; omega
    unfold BlkAt at h
    rw [hn] at h
    cases h
theorem BlkAt.below {w w' : World} {g : Nat} {B : Nat → Nat} (h : BlkAt w g B) (hb : Below w.heap.size w w') : BlkAt w' g B := (hb.block g h.lt).trans h
theorem BlkAt.cells {w : World} {g : Nat} {B : Nat → Nat} (h : BlkAt w g B) : ∀ i, i < 64 → w.cell? ⟨g, 0 + i, none⟩ = some (.int .u8 (B i)) := fun i hi => by
  rw [Nat.zero_add, cell_of_row w g i _ 115 _ h, blkA_cell B i hi]
theorem BlkAt.range {w : World} {g : Nat} {B : Nat → Nat} (h : BlkAt w g B) : w.rangeAt g 0 (blkL B) := blk_range h.cells
theorem BlkAt.view {w : World} {g : Nat} {B : Nat → Nat} (h : BlkAt w g B) (hB : ∀ i, B i < 256) : View w (some ⟨g, 0, none⟩) g 0 64 (fun i => (B i : Int)) :=
  ⟨fun _ => rfl, h.cells, fun i _ => by have := hB i; omega, by omega⟩
theorem blk_laid (w : World) (B : Nat → Nat) : BlkAt ((w.alloc (.cells Y64 115)).setRow w.heap.size (blkA B)) w.heap.size B ∧ Below w.heap.size w ((w.alloc (.cells Y64 115)).setRow w.heap.size (blkA B)) :=
  ⟨setRow_heap _ _ _ _ _ _ (heap_alloc_new _ _), below_setRow ((Below.refl _ _).alloc (Nat.le_refl _) _) (Nat.le_refl _) _⟩

set_option maxRecDepth 100000 in
set_option maxHeartbeats 1600000 in
theorem mnew_any (w : World) (A : Option Addr) (b off n c : Nat) (S : Nat → Nat) (hv : View w A b off n (fun i => (S i : Int))) (hc : n ≤ c) (hS : ∀ i, S i < 256) (hG : Ground w) :
    Calls Tryz.prog 82 #[.slice A n c] w fun e w' => ∃ q, e = .returned (.pointer (some ⟨q, 0, none⟩)) ∧ w.heap.size ≤ q ∧ Kd w' q (blk n S) 0 (fun _ => 0) ∧ Below w.heap.size w w' := by
  have z64 := (zero_of_info info64).1
  have hB : ∀ i, blk n S i < 256 := blk_lt hS
  have cb := blockOf_any w A b off n c S hv hc hS hG
  obtain ⟨B, hBe⟩ : ∃ B, B = blk n S := ⟨_, rfl⟩
  rw [← hBe] at hB cb ⊢
  have HG : Hid (Ground w) := hG
  clear hv hG hBe
  go_enter Tryz.func82, Tryz.ntmps82
  go_wp2_with fail
  refine cb.mono ?_
  rintro _ w1 ⟨rfl, hb1⟩
  have hl := blk_laid w1 B
  have HX : Hid (BlkAt ((w1.alloc (.cells Y64 115)).setRow w1.heap.size (blkA B)) w1.heap.size B ∧ Below w.heap.size w ((w1.alloc (.cells Y64 115)).setRow w1.heap.size (blkA B))) := ⟨hl.1, ch hb1 hl.2⟩
  clear hl hb1 cb
  obtain ⟨g3, hg3⟩ : ∃ g, g = w1.heap.size := ⟨_, rfl⟩
  go_wp2_with (first
    | (refine wpList_store_row (by rfl) 115 (.tmp 3) (.tmp 7) (by rfl) w1.heap.size (blkA B) (by rfl) (by rfl) 115 Y64 (heap_alloc_new _ _) (blkA_info _) (Y64_blk _) (blkA_one _) ?_; change wpList _ _ _ _ _ ((w1.alloc (.cells Y64 115)).setRow w1.heap.size (blkA B)); revert HX; generalize (w1.alloc (.cells Y64 115)).setRow w1.heap.size (blkA B) = w2; intro HX)
    | refine wpList_load_row (by rfl) 115 (.tmp 3) (by rfl) w1.heap.size (by rfl) 115 (blkA B) (0, 0) _ HX.out.1 Tryz.underlying115 (by rfl) (blkA_info B) ?_)
  refine (masked_any w2 B hB 54 (by decide)).mono ?_
  rintro _ w3 ⟨rfl, hb3⟩
  have hl := blk_laid w3 (msk 54 B)
  have HY : Hid (BlkAt ((w3.alloc (.cells Y64 115)).setRow w3.heap.size (blkA (msk 54 B))) w3.heap.size (msk 54 B) ∧ BlkAt ((w3.alloc (.cells Y64 115)).setRow w3.heap.size (blkA (msk 54 B))) w1.heap.size B ∧ Below w.heap.size w ((w3.alloc (.cells Y64 115)).setRow w3.heap.size (blkA (msk 54 B)))) :=
    ⟨hl.1, HX.out.1.below (ch hb3 hl.2), HX.out.2.trans ((ch hb3 hl.2).mono HX.out.2.size)⟩
  clear hl hb3 HX
  go_wp2_with (refine wpList_store_row (by rfl) 115 (.tmp 4) (.tmp 9) (by rfl) w3.heap.size (blkA (msk 54 B)) (by rfl) (by rfl) 115 Y64 (heap_alloc_new _ _) (blkA_info _) (Y64_blk _) (blkA_one _) ?_; change wpList _ _ _ _ _ ((w3.alloc (.cells Y64 115)).setRow w3.heap.size (blkA (msk 54 B))); revert HY; generalize (w3.alloc (.cells Y64 115)).setRow w3.heap.size (blkA (msk 54 B)) = w4; intro HY)
  have bd4 : Below w4.heap.size w4 w4.drew := (Below.refl _ _).drew
  have r0 : w4.drew.rangeAt w1.heap.size 0 (blkL B) := (HY.out.2.1.below bd4).range
  have cn := new_any w4.drew ((HG.out.below HY.out.2.2).below bd4).first
  clear bd4
  refine wp_region_held_drew (S := fun w' => w'.rangeAt w1.heap.size 0 (blkL B)) (by kernel_rfl) r0 ?_
  intro hS
  change wpAnyH _ _ _ _ _ 8 _ _ _
  refine wpAnyH_take (i := 3) (by simp only [List.getElem?_toArray, List.getElem?_cons_zero, List.getElem?_cons_succ]; rfl) (by kernel_rfl) (by kernel_rfl) (by kernel_rfl) (by exact fun _ _ _ h => h) (yieldsIf_load_mid (by rfl) _ _ rfl _ _ rfl _ _ (fun _ h => h) Tryz.underlying115 rfl (blkL_len _)) hS ?_
  refine wpAnyH_ready (rs := [0]) (by kernel_rfl) (by simp) ?_
  refine AllReadyH.cons (by simp only [List.getElem?_toArray, List.getElem?_cons_zero]; rfl) (fun K hK => ?_) AllReadyH.nil
  go_simp
  refine cn.mono ?_
  rintro _ w5 ⟨rfl, st5, hb5⟩
  have b45 : Below w4.heap.size w4 w5 := Below.trans (Below.drew (Below.refl _ _)) hb5
  obtain ⟨R, hr, hR, _⟩ := st5.ex
  have r1 : w5.rangeAt w1.heap.size 0 (blkL B) := (HY.out.2.1.below b45).range
  have r2 : w5.rangeAt w4.heap.size 0 (stL H0 R 0) := StRow.range hr
  have hbu := built61 H0 R 0 (msk 92 B)
  have HR : Hid (StRow E0 w5 w4.heap.size H0 R 0 ∧ (∀ i, R i < 256) ∧ Below w4.heap.size w4 w5) := ⟨hr, hR, b45⟩
  clear hR hb5 hr st5 cn b45
  refine hK.out _ _ r1 (fun _ => ?_)
  clear hK K hS
  refine wpAnyH_weaken (S' := fun w' => w'.rangeAt w4.heap.size 0 (stL H0 R 0) ∧ w'.rangeAt w1.heap.size 0 (blkL B)) (fun _ h => h.2) _ _ _ _ ?_
  have hS : w5.rangeAt w4.heap.size 0 (stL H0 R 0) ∧ w5.rangeAt w1.heap.size 0 (blkL B) := ⟨r2, r1⟩
  refine wpAnyH_take (i := 1) (v := ?_) (by simp only [List.getElem?_toArray, List.getElem?_cons_zero, List.getElem?_cons_succ]; rfl) (by kernel_rfl) (by kernel_rfl) (by kernel_rfl) (by exact fun _ _ _ h => h) (Or.inl ⟨by rfl, ?_⟩) hS ?_
  rotate_left
  · intro w' _
    go_simp
    try with_reducible rfl
  refine wpAnyH_take (i := 2) (by simp only [List.getElem?_toArray, List.getElem?_cons_zero, List.getElem?_cons_succ]; rfl) (by kernel_rfl) (by kernel_rfl) (by kernel_rfl) (by exact fun _ _ _ h => h) (yieldsIf_load_mid (by rfl) _ _ rfl _ _ rfl _ _ (fun _ h => h.1) Tryz.underlying117 rfl (stL_len _ _ _)) hS ?_
  refine wpAnyH_ready (rs := [4]) (by kernel_rfl) (by simp) ?_
  refine AllReadyH.cons (by simp only [List.getElem?_toArray, List.getElem?_cons_zero, List.getElem?_cons_succ]; rfl) (fun K hK => ?_) AllReadyH.nil
  go_simp
  refine (masked_any w5 B hB 92 (by decide)).mono ?_
  rintro _ w6 ⟨rfl, hb6⟩
  have b46 : Below w4.heap.size w4 w6 := ch HR.out.2.2 hb6
  have r3 : w6.rangeAt w1.heap.size 0 (blkL B) := (HY.out.2.1.below b46).range
  have r4 : w6.rangeAt w4.heap.size 0 (stL H0 R 0) := StRow.range (E := E0) (World.rowIs.of_block HR.out.1 (hb6.block _ HR.out.1.lt))
  refine hK.out _ _ ⟨r4, r3⟩ (fun hS => ?_)
  clear hK K r1 r2
  refine wpAnyH_take (i := 5) (by simp only [List.getElem?_toArray, List.getElem?_cons_zero, List.getElem?_cons_succ]; rfl) (by kernel_rfl) (by kernel_rfl) (by kernel_rfl) (by exact fun _ _ _ h => h) (yieldsIf_build (by rfl) _ _ rfl _ (by simp only [List.map_toArray, List.map_cons, List.map_nil]; exact hbu)) hS ?_
  refine wpAnyH_ready (rs := [6]) (by kernel_rfl) (by simp) ?_
  refine AllReadyH.cons (by simp only [List.getElem?_toArray, List.getElem?_cons_zero, List.getElem?_cons_succ]; rfl) (fun K hK => ?_) AllReadyH.nil
  go_simp
  refine hK.out _ _ ⟨World.rangeAt_alloc r4 _, World.rangeAt_alloc r3 _⟩ (fun hS => ?_)
  clear hK K
  refine wpAnyH_take (i := 7) (v := ?_) (by simp only [List.getElem?_toArray, List.getElem?_cons_zero, List.getElem?_cons_succ]; rfl) (by kernel_rfl) (by kernel_rfl) (by kernel_rfl) (by exact fun _ _ _ h => h) (Or.inl ⟨by rfl, ?_⟩) hS ?_
  rotate_left
  · intro w' _
    go_simp
    try with_reducible rfl
  refine wpAnyH_done (by kernel_rfl) ?_ _
  have HB : Hid (Below w4.heap.size w4 w6) := b46
  have st7 : StG (EK (msk 92 B)) (w6.alloc (.cells (kA H0 R 0 (msk 92 B)) 150)) w6.heap.size 0 (fun _ => 0) := ⟨⟨R, ⟨_, heap_alloc_new w6 _, kA_size _ _ _ _, fun i hi => kA_cell _ _ _ _ i hi⟩, HR.out.2.1, fun i hi => absurd hi (by omega)⟩, fun _ => by decide⟩
  have b7 : Below w4.heap.size w4 (w6.alloc (.cells (kA H0 R 0 (msk 92 B)) 150)) := b46.alloc b46.size _
  have f6 : w4.heap.size ≤ w6.heap.size := b46.size
  have lt3 := HY.out.1.lt
  clear r0 r3 r4 hS hbu b46 hb6 HR HB
  revert st7 b7
  generalize w6.alloc (.cells (kA H0 R 0 (msk 92 B)) 150) = w7
  intro st7 b7
  have bd7 : Below w7.heap.size w7 w7.drew := (Below.refl _ _).drew
  have G7 := (HG.out.below HY.out.2.2).below (ch b7 bd7)
  have cw := write_any w7.drew w6.heap.size 0 _ (st7.below bd7) (some ⟨w3.heap.size, 0, none⟩) w3.heap.size 0 64 64 (msk 54 B) ((HY.out.1.below (ch b7 bd7)).view (msk_lt (by decide) hB)) (msk_lt (by decide) hB) (fun _ => by omega) (by decide) G7.roots G7.big (by have := HG.out.big; have := HY.out.2.2.size; omega) (by decide)
  have HB7 : Hid (Below w.heap.size w w7 ∧ w.heap.size ≤ w6.heap.size) := ⟨HY.out.2.2.trans (b7.mono HY.out.2.2.size), Nat.le_trans HY.out.2.2.size f6⟩
  clear bd7 G7 b7 st7 f6 lt3 HY
  go_wp2_with fail
  go_region_with (go_at_call 53; refine cw.mono ?_; rintro _ w8 ⟨rfl, hs8, st8⟩)
  have HK : Hid (Kd w8 w6.heap.size B 0 (fun _ => 0) ∧ Below w.heap.size w w8) := ⟨⟨st8.congr (cat_lt (msk_lt (by decide) hB) (fun _ => by decide)) (fun i hi => by
    unfold cat
    rw [if_neg (by omega), if_pos (by omega)]
    rfl), hB, fun _ => by decide⟩, (HB7.out.1.drew).trans (hs8.below HB7.out.2 HB7.out.1.size)⟩
  clear hs8 st8 cw
  go_wp2_with fail
  go_ret
  exact ⟨w6.heap.size, rfl, HB7.out.2, HK.out.1, HK.out.2⟩
end Go.Proofs.YtlhllbggnpcoaaaGreatDoor
