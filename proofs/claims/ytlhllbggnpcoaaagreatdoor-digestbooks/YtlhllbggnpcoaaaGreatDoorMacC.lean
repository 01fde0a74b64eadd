import Derived.Test.YtlhllbggnpcoaaaGreatDoorMacA
import Derived.Test.YtlhllbggnpcoaaaGreatDoorSl
/-
  mac: the block of a secret.
-/
namespace Go.Proofs.YtlhllbggnpcoaaaGreatDoor
open Go.RowKit

/-- the builtin copy, of bytes, as one step of a region that draws its order -/
theorem step_copy_in {w : World} {ops : Array Oper} {o : Oper} {a : Act} {K : Act → World → Prop} {Q : Exit → Act → World → Prop} {E : Prop} (hgd : o.guard = none) (d s : Operand)
    (ho : o.op = .call { callee := .builtin .copy, args := #[d, s], argTypes := #[26, 26] })
    (g off dLen dCap t N : Nat) (f : Nat → Value) (hd : a.eval d = .slice (some ⟨g, off, none⟩) dLen dCap) (hr : w.rowIs g t N f) (hfit : off + dLen ≤ N)
    (sp : Option Addr) (b o2 m c : Nat) (Z : Nat → Int) (hs : a.eval s = .slice sp m c) (hv : View w sp b o2 m Z) (cnt : Nat) (hcnt : cnt = Nat.min m dLen)
    (h : ∀ w', Save g w w' → w'.rowIs g t N (fun i => if off ≤ i ∧ i < off + cnt then .int .u8 (Z (i - off)) else f i) → K (a.put o.dst (.int .i64 cnt)) w') :
    if Region.wanted o (yielded ops a.tmps) = true then Oper.wp Tryz.prog o a w K Q else E := by
  have hw : Region.wanted o (yielded ops a.tmps) = true := by simp [Region.wanted, hgd]
  rw [if_pos hw]
  obtain ⟨cur, hg, hsz, hc⟩ := hr
  have hle : cnt ≤ m ∧ cnt ≤ dLen := by rw [hcnt]; exact ⟨Nat.min_le_left _ _, Nat.min_le_right _ _⟩
  by_cases h0 : cnt = 0
  · subst h0
    have hrun := run_copy_none (P := Tryz.prog) w 26 26 o.type 5 (some ⟨g, off, none⟩) sp dLen dCap m c Tryz.underlying26 info5size hcnt.symm
    unfold Oper.wp
    simp [execOp, ho, resolve, invoke, builtin, hd, hs, hrun, Result.andThen]
    exact h w (Save.refl _ _) ⟨cur, hg, hsz, fun i hi => by show cur[i]? = some (if off ≤ i ∧ i < off + 0 then _ else f i); rw [if_neg (by omega)]; exact hc i hi⟩
  · obtain rfl := hv.at_ (by omega)
    have hl : ((List.range cnt).map (fun i => Value.int .u8 (Z i))).length = cnt := by simp
    have hrun := run_copy_row (P := Tryz.prog) w 26 26 o.type 5 g off dLen dCap ⟨b, o2, none⟩ m c cur t ((List.range cnt).map (fun i => Value.int .u8 (Z i))) Tryz.underlying26 info5size hg (by rw [hl, hcnt]) (by
      intro j v hj
      have hjl : j < cnt := by
        have := (List.getElem?_eq_some_iff.1 hj).1
        omega
      rw [List.getElem?_map, List.getElem?_range hjl] at hj
      have e : v = .int .u8 (Z j) := by simpa using hj.symm
      subst e
      rw [Go.WideShapes.add_plain]
      exact hv.cell j (by omega)) (by rw [hl, hsz]; omega) (by
      intro v hv'
      simp only [List.mem_map] at hv'
      obtain ⟨i, _, rfl⟩ := hv'
      rfl)
    have sp := splice_cell (Z := Z) hsz hc (by omega) _ rfl (cnt := cnt) (off := off)
    have hh := h (w.setRow g ((cur.toList.take off ++ (((List.range cnt).map (fun i => Value.int .u8 (Z i))) ++ cur.toList.drop (off + ((List.range cnt).map (fun i => Value.int .u8 (Z i))).length))).toArray)) ((Save.refl _ _).setRow _) (rowIs_setRow hg sp.1 sp.2)
    rw [hl] at hrun hh
    unfold Oper.wp
    simp only [execOp, ho, resolve, invoke, builtin]
    simp [hd, hs, hrun, Result.andThen]
    exact hh

/-- the block of a secret of n bytes S -/
def blk (n : Nat) (S : Nat → Nat) (i : Nat) : Nat := if n ≤ 64 then (if i < n then S i else 0) else if i < 32 then hb (digest n S) i else 0
theorem hb_lt (s : W8) (i : Nat) : hb s i < 256 := Nat.mod_lt _ (by decide)
theorem blk_lt {n : Nat} {S : Nat → Nat} (h : ∀ i, S i < 256) (i : Nat) : blk n S i < 256 := by
  unfold blk
  split
  · split
    · exact h i
    · omega
  · split
    · exact hb_lt _ _
    · omega

/-- two new blocks of zeros -/
structure BF (w w2 : World) : Prop where
  below : Below w.heap.size w w2
  size : w2.heap.size = w.heap.size + 2
  out : w2.heap[w.heap.size]? = some (.cells Y64 115 (0, 0))
  row : w2.rowIs (w.heap.size + 1) 115 64 (fun _ => .int .u8 0)
theorem bf_start (w : World) : BF w ((w.alloc (.cells Y64 115)).alloc (.cells Y64 115)) := by
  refine ⟨((Below.refl _ _).alloc (Nat.le_refl _) _).alloc (by simp) _, by simp, ?_, ?_⟩
  · rw [heap_alloc_old _ _ (by simp)]
    exact heap_alloc_new _ _
  · have := zeros_row (w.alloc (.cells Y64 115)) (.int .u8 0) 64 115
    rw [World.size_alloc] at this
    have e : Array.replicate 64 (Value.int .u8 0) = Y64 := Y64_rep.symm
    rw [e] at this
    exact this
theorem hash_view {w : World} {g : Nat} {s : W8} (h : HashAt w g s) : View w (some ⟨g, 0, none⟩) g 0 32 (fun i => ((hb s i : Nat) : Int)) :=
  ⟨fun _ => rfl, fun i hi => by rw [Nat.zero_add, h.cells i (by rw [hashA_size]; exact hi), hashA_cell s i hi], fun i _ => by have := hb_lt s i; omega, by omega⟩

set_option maxRecDepth 100000 in
set_option maxHeartbeats 1600000 in
theorem blockOf_any (w : World) (A : Option Addr) (b off n c : Nat) (S : Nat → Nat) (hv : View w A b off n (fun i => (S i : Int))) (hc : n ≤ c) (hS : ∀ i, S i < 256) (hG : Ground w) :
    Calls Tryz.prog 110 #[.slice A n c] w fun e w' => e = .returned (.agg (blkA (blk n S))) ∧ Below w.heap.size w w' := by
  have z64 := (zero_of_info info64).1
  have HB : Hid (BF w ((w.alloc (.cells Y64 115)).alloc (.cells Y64 115))) := bf_start w
  have HV : Hid (View w A b off n (fun i => (S i : Int))) := hv
  have HG : Hid (Ground w) := hG
  have ln := hv.len
  clear hv hG
  by_cases hn : n ≤ 64
  · go_enter Tryz.func110, Tryz.ntmps110
    go_wp2_with (first
      | ((refine wpList_copy_in (by rfl) (.tmp 15) (.tmp 16) (by rfl) (w.heap.size + 1) 0 64 64 115 64 (fun _ => .int .u8 0) (by rfl) HB.out.row (by omega) A b off n c _ (by rfl) (HV.out.below HB.out.below) n (Nat.min_eq_left hn).symm ?_); intro wn hsn hrn; have og : wn.heap[w.heap.size]? = some (.cells Y64 115 (0, 0)) := ((hsn.block w.heap.size (by rw [HB.out.size]; omega) (by omega)).trans HB.out.out); have HS : Hid (Below w.heap.size w wn) := HB.out.below.trans (hsn.below (by omega) (by rw [HB.out.size]; omega)); obtain ⟨cs, hg, hsz, hcs⟩ := hrn; have HC : Hid (cs = blkA (blk n S)) := (blkA_of hsz (fun i hi => by rw [hcs i hi]; unfold blk; rw [if_pos hn]; by_cases e : i < n; (simp [e]); (simp [e]))); have hi : (Tryz.prog.info? 115).map (·.size) = some cs.size := (by rw [hsz]; exact info64s); have h1 : cs.all (·.oneCell') = true := (by rw [HC.out]; exact blkA_one _); have hz : Y64.size = cs.size := (by rw [hsz]; rfl); clear hcs hsn)
      | refine wpList_load_row rfl 115 (.tmp 3) rfl (w.heap.size + 1) rfl 115 cs (0, 0) _ hg Tryz.underlying115 rfl hi ?_
      | refine wpList_store_row rfl 115 (.tmp 2) (.tmp 18) rfl w.heap.size cs rfl rfl 115 Y64 og hi hz h1 ?_)
    refine bodyPost_ret (v := .agg cs) ?_ rfl ?_
    · exact results_cell_row rfl _ _ w.heap.size 115 cs (0, 0) _ rfl (setRow_heap _ _ _ _ _ _ og) Tryz.underlying115 rfl hi
    · exact ⟨by rw [← HC.out], below_setRow HS.out (Nat.le_refl _) _⟩
  · obtain ⟨w2, hw2⟩ : ∃ x, x = (w.alloc (.cells Y64 115)).alloc (.cells Y64 115) := ⟨_, rfl⟩
    have c15 := sum_one w2 A b off n c 26 1 S (HV.out.below (by rw [hw2]; exact HB.out.below)) hc hS (by rw [hw2]; exact (HG.out.below HB.out.below).first) (by rw [hw2]; exact (HG.out.below HB.out.below).roots) (by rw [hw2]; exact (HG.out.below HB.out.below).big)
    rw [← hw2] at HB
    have z2 : w2.heap.size = w.heap.size + 2 := HB.out.size
    rw [z2] at c15
    obtain ⟨D, hD⟩ : ∃ d, d = digest n S := ⟨_, rfl⟩
    rw [← hD] at c15
    have HD : Hid (D = digest n S) := hD
    have Hw2 : Hid (w2 = (w.alloc (.cells Y64 115)).alloc (.cells Y64 115)) := hw2
    clear hD
    rw [hw2] at c15
    clear hw2 z2
    go_enter Tryz.func110, Tryz.ntmps110
    go_wp2_with fail
    refine c15.mono ?_
    rintro _ w3 ⟨rfl, hb3⟩
    rw [← Hw2.out] at hb3
    have b3 : Below w2.heap.size w2 w3 := (((Below.refl _ _).alloc (Nat.le_refl _) _).trans (hb3.mono (by simp)))
    have hl := hash_laid w3 D
    have b4 : Below w2.heap.size w2 ((w3.alloc (.cells Z32 31)).setRow w3.heap.size (hashA D)) := ch b3 hl.2
    have HX : Hid (HashAt ((w3.alloc (.cells Z32 31)).setRow w3.heap.size (hashA D)) w3.heap.size D ∧ Below w2.heap.size w2 ((w3.alloc (.cells Z32 31)).setRow w3.heap.size (hashA D)) ∧ w2.heap.size ≤ w3.heap.size) := ⟨hl.1, b4, b3.size⟩
    clear hb3 b3 hl b4 c15
    go_wp2_with (refine wpList_store_row (by rfl) 31 (.tmp 4) (.tmp 10) (by rfl) w3.heap.size (hashA D) (by rfl) (by rfl) 31 Z32 (heap_alloc_new _ _) (hashA_info _) (Z32_hash _) (hashA_one _) ?_; change wpList _ _ _ _ _ ((w3.alloc (.cells Z32 31)).setRow w3.heap.size (hashA D)); revert HX; generalize (w3.alloc (.cells Z32 31)).setRow w3.heap.size (hashA D) = w4; intro HX)
    have s2 := HB.out.size
    have b5 : Below w.heap.size w w4 := HB.out.below.trans (HX.out.2.1.mono (by omega))
    have r4 : w4.drew.rowIs (w.heap.size + 1) 115 64 (fun _ => .int .u8 0) := (HB.out.row.of_block (HX.out.2.1.block _ (by omega))).of_block rfl
    have v4 : View w4.drew (some ⟨w3.heap.size, 0, none⟩) w3.heap.size 0 32 (fun i => ((hb D i : Nat) : Int)) := (hash_view HX.out.1).below ((Below.refl _ _).drew)
    have g4 : w4.drew.heap[w.heap.size]? = some (.cells Y64 115 (0, 0)) := (HX.out.2.1.block _ (by omega)).trans HB.out.out
    have HR4 : Hid (w4.drew.rowIs (w.heap.size + 1) 115 64 (fun _ => .int .u8 0) ∧ View w4.drew (some ⟨w3.heap.size, 0, none⟩) w3.heap.size 0 32 (fun i => ((hb D i : Nat) : Int)) ∧ w4.drew.heap[w.heap.size]? = some (.cells Y64 115 (0, 0)) ∧ Below w.heap.size w w4.drew ∧ w.heap.size + 2 ≤ w4.drew.heap.size) := ⟨r4, v4, g4, b5.drew, Nat.le_trans (by omega) HX.out.2.1.size⟩
    clear r4 v4 g4 b5 HX
    go_region_law (refine step_copy_in (by rfl) (.tmp 11) (.tmp 12) (by rfl) (w.heap.size + 1) 0 64 64 115 64 (fun _ => .int .u8 0) (by rfl) HR4.out.1 (by omega) (some ⟨w3.heap.size, 0, none⟩) w3.heap.size 0 32 32 _ (by rfl) HR4.out.2.1 32 (by rfl) ?_; intro wn hsn hrn)
    have og : wn.heap[w.heap.size]? = some (.cells Y64 115 (0, 0)) := ((hsn.block w.heap.size (by have := HR4.out.2.2.2.2; omega) (by omega)).trans HR4.out.2.2.1)
    have HS : Hid (Below w.heap.size w wn) := HR4.out.2.2.2.1.trans (hsn.below (by omega) HR4.out.2.2.2.1.size)
    obtain ⟨cs, hg, hsz, hcs⟩ := hrn
    have HC : Hid (cs = blkA (blk n S)) := blkA_of hsz (fun i hi => by
      rw [hcs i hi]
      unfold blk
      rw [if_neg hn, ← HD.out]
      by_cases e : i < 32
      · simp [e]
      · simp [e])
    have hi : (Tryz.prog.info? 115).map (·.size) = some cs.size := by rw [hsz]; exact info64s
    have h1 : cs.all (·.oneCell') = true := by rw [HC.out]; exact blkA_one _
    have hz : Y64.size = cs.size := by rw [hsz]; rfl
    clear hcs hsn HR4
    go_wp2_with (first
      | refine wpList_load_row rfl 115 (.tmp 3) rfl (w.heap.size + 1) rfl 115 cs (0, 0) _ hg Tryz.underlying115 rfl hi ?_
      | refine wpList_store_row rfl 115 (.tmp 2) (.tmp 14) rfl w.heap.size cs rfl rfl 115 Y64 og hi hz h1 ?_)
    refine bodyPost_ret (v := .agg cs) ?_ rfl ?_
    · exact results_cell_row rfl _ _ w.heap.size 115 cs (0, 0) _ rfl (setRow_heap _ _ _ _ _ _ og) Tryz.underlying115 rfl hi
    · exact ⟨by rw [← HC.out], below_setRow HS.out (Nat.le_refl _) _⟩
end Go.Proofs.YtlhllbggnpcoaaaGreatDoor

/-
  mac: a code on its way, in memory.
-/
namespace Go.Proofs.YtlhllbggnpcoaaaGreatDoor
open Go.RowKit

def EK (O : Nat → Nat) : Env := ⟨150, 137, fun i => .int .u8 (O (i - 73)), by omega⟩
def stL (s : W8) (R : Nat → Nat) (n : Nat) : List Value := (List.range 73).map (stc E0.tl s R n)
def blkL (B : Nat → Nat) : List Value := (List.range 64).map (fun i => Value.int .u8 (B i))
/-- all cells of a code on its way -/
def kA (s : W8) (R : Nat → Nat) (n : Nat) (O : Nat → Nat) : Array Value := ((List.range 137).map (stc (EK O).tl s R n)).toArray
theorem kA_size (s : W8) (R : Nat → Nat) (n : Nat) (O : Nat → Nat) : (kA s R n O).size = 137 := by simp [kA]
theorem kA_cell (s : W8) (R : Nat → Nat) (n : Nat) (O : Nat → Nat) : ∀ i, i < 137 → (kA s R n O)[i]? = some (stc (EK O).tl s R n i) := by
  intro i hi
  unfold kA
  rw [List.getElem?_toArray, List.getElem?_map, List.getElem?_range hi]
  rfl
set_option maxRecDepth 100000 in
theorem built61 (s : W8) (R : Nat → Nat) (n : Nat) (O : Nat → Nat) : Tryz.prog.built 150 [(0, .agg (stL s R n).toArray), (1, .agg (blkA O))] = some (kA s R n O) := by kernel_rfl
theorem stL_len (s : W8) (R : Nat → Nat) (n : Nat) : (Tryz.prog.info? 117).map (·.size) = some (stL s R n).length := by
  unfold stL
  simp only [List.length_map, List.length_range]
  exact (zero_of_info info54).2
theorem blkL_len (B : Nat → Nat) : (Tryz.prog.info? 115).map (·.size) = some (blkL B).length := by
  unfold blkL
  simp only [List.length_map, List.length_range]
  exact info64s
theorem StRow.range {E : Env} {w : World} {p : Nat} {s : W8} {R : Nat → Nat} {n : Nat} (h : StRow E w p s R n) : w.rangeAt p 0 (stL s R n) := by
  intro j v hj
  have hl : j < 73 := by
    have := (List.getElem?_eq_some_iff.1 hj).1
    simpa [stL] using this
  rw [Nat.zero_add, StRow.part h j (by rw [stA_size]; exact hl)]
  unfold stA
  rw [List.getElem?_toArray]
  exact hj
/-- sixty-four bytes from a place on -/
theorem blk_range {w : World} {g o : Nat} {B : Nat → Nat} (h : ∀ i, i < 64 → w.cell? ⟨g, o + i, none⟩ = some (.int .u8 (B i))) : w.rangeAt g o (blkL B) := by
  intro j v hj
  have hl : j < 64 := by
    have := (List.getElem?_eq_some_iff.1 hj).1
    simpa [blkL] using this
  rw [h j hl]
  unfold blkL at hj
  rw [List.getElem?_map, List.getElem?_range hl] at hj
  exact hj

theorem cat_assoc (a m : Nat) (I X Y : Nat → Nat) : cat (a + m) (cat a I X) Y = cat a I (cat m X Y) := by
  funext i
  unfold cat
  by_cases h1 : i < a
  · rw [if_pos (by omega), if_pos h1, if_pos h1]
  · rw [if_neg h1]
    by_cases h2 : i - a < m
    · rw [if_pos (by omega), if_neg h1, if_pos h2]
    · rw [if_neg (by omega), if_neg h1, if_neg h2, show i - (a + m) = i - a - m by omega]

/-- A CODE ON ITS WAY, AT p: the secret's block B, the m bytes X. -/
structure Kd (w : World) (p : Nat) (B : Nat → Nat) (m : Nat) (X : Nat → Nat) : Prop where
  st : StG (EK (msk 92 B)) w p (64 + m) (cat 64 (msk 54 B) X)
  bd : ∀ i, B i < 256
  bx : ∀ i, X i < 256
theorem Kd.lt {w : World} {p : Nat} {B : Nat → Nat} {m : Nat} {X : Nat → Nat} (h : Kd w p B m X) : p < w.heap.size := h.st.lt
theorem Kd.below {w w' : World} {p : Nat} {B : Nat → Nat} {m : Nat} {X : Nat → Nat} (h : Kd w p B m X) (hb : Below w.heap.size w w') : Kd w' p B m X := ⟨h.st.below hb, h.bd, h.bx⟩
theorem Kd.save {w w' : World} {p q : Nat} {B : Nat → Nat} {m : Nat} {X : Nat → Nat} (h : Kd w p B m X) (hb : Save q w w') (hp : p ≠ q) : Kd w' p B m X := ⟨h.st.save hb hp, h.bd, h.bx⟩
theorem Kd.congr {w : World} {p : Nat} {B : Nat → Nat} {m : Nat} {X Y : Nat → Nat} (h : Kd w p B m X) (hY : ∀ i, Y i < 256) (e : ∀ i, i < m → X i = Y i) : Kd w p B m Y :=
  ⟨h.st.congr (cat_lt (msk_lt (by decide) h.bd) hY) (fun i hi => by
    unfold cat
    by_cases h1 : i < 64
    · rw [if_pos h1, if_pos h1]
    · rw [if_neg h1, if_neg h1, e _ (by omega)]), h.bd, hY⟩
theorem Kd.outer {w : World} {p : Nat} {B : Nat → Nat} {m : Nat} {X : Nat → Nat} (h : Kd w p B m X) : ∀ i, i < 64 → w.cell? ⟨p, 73 + i, none⟩ = some (.int .u8 (msk 92 B i)) := by
  intro i hi
  obtain ⟨R, r, _⟩ := h.st.ex
  rw [World.rowIs.cell r (i := 73 + i) (by show 73 + i < 137; omega)]
  unfold stc
  rw [if_neg (by omega), if_neg (by omega), if_neg (by omega)]
  show some (Value.int .u8 (msk 92 B (73 + i - 73) : Nat)) = _
  rw [show 73 + i - 73 = i by omega]
/-- the code of m bytes X under the block B -/
def hmac (B : Nat → Nat) (m : Nat) (X : Nat → Nat) : W8 := digest 96 (cat 64 (msk 92 B) (hb (digest (64 + m) (cat 64 (msk 54 B) X))))

set_option maxRecDepth 100000 in
theorem mwrite_any (w : World) (p : Nat) (B : Nat → Nat) (m : Nat) (X : Nat → Nat) (h : Kd w p B m X) (a : Option Addr) (b off k c : Nat) (Y : Nat → Nat) (hv : View w a b off k (fun i => (Y i : Int))) (hY : ∀ i, Y i < 256) (hbp : 0 < k → b ≠ p) (hkc : k ≤ c)
    (hG : Ground w) (hp : p ≠ 2) (hlen : 64 + m + k ≤ 1152921504606846976) :
    Calls Tryz.prog 83 #[.pointer (some ⟨p, 0, none⟩), .slice a k c] w fun e w' => e = .returned (.tuple #[]) ∧ Save p w w' ∧ Kd w' p B (m + k) (cat m X Y) := by
  have c1 := write_any w p (64 + m) _ h.st a b off k c Y hv hY hbp hkc hG.roots hG.big hp hlen
  have hb := h.bd
  have hx := h.bx
  clear h hv hG
  go_enter Tryz.func83, Tryz.ntmps83
  go_wp2_with fail
  refine c1.mono ?_
  rintro _ w1 ⟨rfl, hs, st⟩
  rw [cat_assoc, Nat.add_assoc] at st
  have HK : Hid (Save p w w1 ∧ Kd w1 p B (m + k) (cat m X Y)) := ⟨hs, st, hb, cat_lt hx hY⟩
  clear hs st c1
  go_wp2_with fail
  go_end0
  exact ⟨rfl, HK.out⟩
theorem mwrite_nil (w : World) (v : Value) : Calls Tryz.prog 83 #[.pointer none, v] w fun e w' => e = .returned (.tuple #[]) ∧ w' = w := by
  go_enter Tryz.func83, Tryz.ntmps83
  go_wp2
  refine bodyPost_ret (results_none rfl _ _ _) rfl ?_
  exact ⟨rfl, rfl⟩
theorem mcode_nil (w : World) : Calls Tryz.prog 84 #[.pointer none] w fun e w' => e = .returned (.agg Z32) ∧ Below w.heap.size w w' := by
  go_enter Tryz.func84, Tryz.ntmps84
  go_wp2_with (refine wpList_store_row rfl 31 (.tmp 2) (.tmp 6) rfl w.heap.size Z32 rfl rfl 31 Z32 (heap_alloc_new _ _) info26 rfl Z32_one ?_)
  refine bodyPost_ret (v := .agg Z32) ?_ rfl ?_
  · exact results_cell_row rfl _ _ w.heap.size 31 Z32 (0, 0) _ rfl (setRow_heap _ _ _ _ _ _ (heap_alloc_new _ _)) Tryz.underlying31 rfl info26
  · exact ⟨rfl, below_setRow ((Below.refl _ _).alloc (Nat.le_refl _) _) (Nat.le_refl _) _⟩
end Go.Proofs.YtlhllbggnpcoaaaGreatDoor
