import Derived.Test.YtpmdjopojcgpeaaGreatDoorQPadq
/-
  The sum of a state.
-/
namespace Go.Proofs.YtpmdjopojcgpeaaGreatDoor.Dg
open Go.RowKit

def hb (s : W8) (i : Nat) : Nat := w8 s (i / 4) / 2 ^ (24 - 8 * (i % 4)) % 256
def digest (n : Nat) (X : Nat → Nat) : W8 := folds (cat n X (padb n)) ((n + (zend n + 8)) / 64)
def hashA (s : W8) : Array Value := ((List.range 32).map (fun i => Value.int .u8 (hb s i))).toArray
theorem hashA_size (s : W8) : (hashA s).size = 32 := by simp [hashA]
theorem hashA_cell (s : W8) : ∀ i, i < 32 → (hashA s)[i]? = some (.int .u8 (hb s i)) := by
  intro i hi
  unfold hashA
  rw [List.getElem?_toArray, List.getElem?_map, List.getElem?_range hi]
  rfl
theorem hashA_of {cs : Array Value} {s : W8} (h : cs.size = 32) (hc : ∀ i, i < 32 → cs[i]? = some (.int .u8 (hb s i))) : cs = hashA s := by
  apply Array.ext_getElem?
  intro i
  by_cases hi : i < 32
  · rw [hc i hi, hashA_cell s i hi]
  · rw [Array.getElem?_eq_none (by omega), Array.getElem?_eq_none (by rw [hashA_size]; omega)]
def Z73 : Array Value := #[.int .u32 0, .int .u32 0, .int .u32 0, .int .u32 0, .int .u32 0, .int .u32 0, .int .u32 0, .int .u32 0, .int .u8 0, .int .u8 0, .int .u8 0, .int .u8 0, .int .u8 0, .int .u8 0, .int .u8 0, .int .u8 0, .int .u8 0, .int .u8 0, .int .u8 0, .int .u8 0, .int .u8 0, .int .u8 0, .int .u8 0, .int .u8 0, .int .u8 0, .int .u8 0, .int .u8 0, .int .u8 0, .int .u8 0, .int .u8 0, .int .u8 0, .int .u8 0, .int .u8 0, .int .u8 0, .int .u8 0, .int .u8 0, .int .u8 0, .int .u8 0, .int .u8 0, .int .u8 0, .int .u8 0, .int .u8 0, .int .u8 0, .int .u8 0, .int .u8 0, .int .u8 0, .int .u8 0, .int .u8 0, .int .u8 0, .int .u8 0, .int .u8 0, .int .u8 0, .int .u8 0, .int .u8 0, .int .u8 0, .int .u8 0, .int .u8 0, .int .u8 0, .int .u8 0, .int .u8 0, .int .u8 0, .int .u8 0, .int .u8 0, .int .u8 0, .int .u8 0, .int .u8 0, .int .u8 0, .int .u8 0, .int .u8 0, .int .u8 0, .int .u8 0, .int .u8 0, .int .i64 0]
theorem info54 : (Tryz.prog.info? 217).map (fun i => (i.zero, i.size)) = some (some (.agg Z73), 73) := by kernel_rfl
theorem info26 : (Tryz.prog.info? 38).map (·.size) = some 32 := by kernel_rfl

section
variable {P : Program}
theorem run_loadVar_cells (w : World) (g : Nat) (ty : TypeId) (cs : Array Value) (d : TypeDesc) (hc : ∀ j, j < cs.size → w.cell? ⟨g, j, none⟩ = cs[j]?)
    (hu : P.underlying ty = some d) (hd : (match d with | .struct _ | .array _ _ => true | _ => false) = true) (hi : (P.info? ty).map (·.size) = some cs.size) :
    (loadVar ty ⟨g, 0, none⟩).run P w = .ok (.agg cs) w := by
  have hl : (loadCells ⟨g, 0, none⟩ cs.toList.length).run P w = .ok cs.toList.toArray w :=
    run_loadCells_list (P := P) w ⟨g, 0, none⟩ cs.toList (fun j v hv => by
      have hadd : (⟨g, 0, none⟩ : Addr).add j = ⟨g, j, none⟩ := by unfold Addr.add; split <;> simp_all
      have hj : j < cs.size := by
        have := (List.getElem?_eq_some_iff.1 hv).1
        simpa using this
      rw [hadd, hc j hj]
      simpa using hv)
  cases hq : P.info? ty with
  | none => simp [hq] at hi
  | some i =>
    have hs : i.size = cs.size := by simpa [hq] using hi
    have hagg : (isAgg ty).run P w = .ok true w := by
      unfold isAgg
      rw [Sem.run_bind, run_underlying hu w]
      cases d <;> simp_all
    simp only [Array.length_toList, Array.toArray_toList] at hl
    simp [loadVar, Sem.run_bind, hagg, sizeOf, typeInfo, hq, hs, hl]
theorem wpList_load_cells {ops : Array Oper} {rest : List Oper} {o : Oper} {a : Act} {w : World} {Q : Exit → Act → World → Prop} (hgd : o.guard = none) (ty : TypeId) (x : Operand) (ho : o.op = .load ty x)
    (g : Nat) (hx : a.eval x = .pointer (some ⟨g, 0, none⟩)) (cs : Array Value) (d : TypeDesc) (hc : ∀ j, j < cs.size → w.cell? ⟨g, j, none⟩ = cs[j]?)
    (hu : P.underlying ty = some d) (hd : (match d with | .struct _ | .array _ _ => true | _ => false) = true) (hi : (P.info? ty).map (·.size) = some cs.size)
    (h : wpList P ops Q rest (a.put o.dst (.agg cs)) w) : wpList P ops Q (o :: rest) a w := by
  refine wpList_plain hgd fun K hK => ?_
  unfold Oper.wp execOp
  simp only [ho, hx, Instr.loadAt, Instr.sureAddr, Sem.run_bind, Sem.run_pure, Result.andThen_ok, run_loadVar_cells w g ty cs d hc hu hd hi]
  exact hK _ _ h
end

theorem slice_pad (w : World) (g n : Nat) (hn : n ≤ 72) : (Instr.sliceAt 218 (.pointer (some ⟨g, 0, none⟩)) none (some (.int .i64 (n : Int))) none).run Tryz.prog w = .ok (.slice (some ⟨g, 0, none⟩) n 72) w := by
  have al : Tryz.prog.arrayLen 218 = 72 := by kernel_rfl
  have el : Tryz.prog.elem 218 = 5 := by kernel_rfl
  have hu : Tryz.prog.underlying 218 = some (.array (Tryz.prog.arrayLen 218) (Tryz.prog.elem 218)) := by rw [al, el]; exact Tryz.underlying218
  rw [run_sliceAt_array_h w 218 ⟨g, 0, none⟩ hu .i64 (n : Int) (by omega) (by rw [al]; omega), el, al]
  have sz : (sizeOf 5).run Tryz.prog w = .ok 1 w := by
    have := info5size
    cases hq : Tryz.prog.info? 5 with
    | none => simp [hq] at this
    | some i => simp [hq] at this; simp [sizeOf, typeInfo, hq, this]
  rw [sz]
  simp [slicedAt, Result.andThen, Addr.add]

def Z32 : Array Value := #[.int .u8 0, .int .u8 0, .int .u8 0, .int .u8 0, .int .u8 0, .int .u8 0, .int .u8 0, .int .u8 0, .int .u8 0, .int .u8 0, .int .u8 0, .int .u8 0, .int .u8 0, .int .u8 0, .int .u8 0, .int .u8 0, .int .u8 0, .int .u8 0, .int .u8 0, .int .u8 0, .int .u8 0, .int .u8 0, .int .u8 0, .int .u8 0, .int .u8 0, .int .u8 0, .int .u8 0, .int .u8 0, .int .u8 0, .int .u8 0, .int .u8 0, .int .u8 0]
theorem Z32_rep : Z32 = Array.replicate 32 (.int .u8 0) := by rfl
theorem Z32_one : Z32.all (·.oneCell') = true := by rw [Z32_rep]; exact all_one (fun i hi => ⟨_, _, by rw [Array.size_replicate] at hi; simp [hi]; exact ⟨rfl, rfl⟩⟩)
theorem Z73_size : Z73.size = 73 := by rfl

/-- of a state that is none -/
theorem sum_nil (w : World) : Calls Tryz.prog 100 #[.pointer none] w fun e w' => e = .returned (.agg Z32) ∧ Below w.heap.size w w' := by
  go_enter Tryz.func100, Tryz.ntmps100
  go_wp2_with (refine wpList_store_row rfl 38 (.tmp 2) (.tmp 11) rfl w.heap.size Z32 rfl rfl 38 Z32 (heap_alloc_new _ _) info26 rfl Z32_one ?_)
  refine bodyPost_ret (v := .agg Z32) ?_ rfl ?_
  · exact results_cell_row rfl _ _ w.heap.size 38 Z32 (0, 0) _ rfl (setRow_heap _ _ _ _ _ _ (heap_alloc_new _ _)) Tryz.underlying38 rfl info26
  · exact ⟨rfl, below_setRow ((Below.refl _ _).alloc (Nat.le_refl _) _) (Nat.le_refl _) _⟩

def wS (w : World) (cs : Array Value) : World := ((w.alloc (.cells Z32 38)).alloc (.cells Z73 217)).setRow (w.heap.size + 1) cs
structure SF (w w1 : World) (p n : Nat) (X : Nat → Nat) : Prop where
  below : Below w.heap.size w w1
  size : w1.heap.size = w.heap.size + 2
  out : w1.rowIs w.heap.size 38 32 (fun _ => .int .u8 0)
  st : St w1 (w.heap.size + 1) n X
  len : w1.cell? ⟨p, 72, none⟩ = some (.int .i64 n)
theorem sf_start {E : Env} {w : World} {p n : Nat} {X R : Nat → Nat} (h : StG E w p n X) (cs : Array Value) (hl : w.cell? ⟨p, 72, none⟩ = some (.int .i64 n)) (hsz : cs.size = 73) (hcs : ∀ i, i < 73 → cs[i]? = some (stc E0.tl (folds X (n / 64)) R n i)) (hR : ∀ i, R i < 256) (hq : ∀ i, i < n % 64 → R i = X (64 * (n / 64) + i)) :
    SF w (wS w cs) p n X := by
  have hp := h.lt
  have b1 : Below w.heap.size w (wS w cs) := below_setRow (((Below.refl _ _).alloc (Nat.le_refl _) _).alloc (by simp) _) (by omega) _
  have hn : ((w.alloc (.cells Z32 38)).alloc (.cells Z73 217)).heap[w.heap.size + 1]? = some (.cells Z73 217 (0, 0)) := by
    have := heap_alloc_new (w.alloc (.cells Z32 38)) (.cells Z73 217)
    rwa [World.size_alloc] at this
  refine ⟨b1, by simp [wS], ?_, ⟨⟨R, rowIs_setRow hn hsz hcs, hR, hq⟩, h.bd⟩, ?_⟩
  · have r : (w.alloc (.cells Z32 38)).rowIs w.heap.size 38 32 (fun _ => .int .u8 0) := by rw [Z32_rep]; exact zeros_row w _ 32 38
    exact (r.alloc _).of_block (setRow_other _ _ _ _ (by omega))
  · rw [b1.cell (p := ⟨p, 72, none⟩) hp]
    exact hl

structure SF2 (w w1 w3 : World) (g m : Nat) (Y : Nat → Nat) : Prop where
  below : Below w1.heap.size w1 w3
  far : w1.heap.size ≤ g
  view : View w3 (some ⟨g, 0, none⟩) g 0 m (fun i => (Y i : Int))
theorem sf2_start {w w1 w2 : World} {ps : Array Value} {n m : Nat} (hb : Below w1.heap.size w1 w2) (psz : ps.size = 72) (pcs : ∀ i, i < 72 → ps[i]? = some (.int .u8 (padb n i))) (hm : m ≤ 72) :
    SF2 w w1 ((w2.alloc (.cells Z72 218)).setRow w2.heap.size ps) w2.heap.size m (padb n) := by
  have r := rowIs_setRow (f := fun i => .int .u8 (padb n i)) (heap_alloc_new w2 (.cells Z72 218)) psz pcs
  refine ⟨below_setRow (hb.alloc hb.size _) hb.size _, hb.size, fun _ => rfl, fun i hi => ?_, fun i hi => ?_, by omega⟩
  · rw [Nat.zero_add]
    exact r.cell (by omega)
  · have := padb_lt n i
    omega

/-- the answer's bytes, k words of them -/
def hstep (s : W8) (k i : Nat) : Nat := if i < 4 * k then hb s i else 0
structure SF3 (w wr : World) (g : Nat) (f : Nat → Nat) : Prop where
  below : Below w.heap.size w wr
  far : w.heap.size + 2 ≤ g
  out : wr.rowIs w.heap.size 38 32 (fun _ => .int .u8 0)
  row : wr.rowIs g 38 32 (fun i => .int .u8 (f i))
theorem SF3.set {w wr : World} {g : Nat} {f : Nat → Nat} (h : SF3 w wr g f) (i v : Nat) : SF3 w (wr.setCell ⟨g, i, none⟩ (.int .u8 v)) g (fun j => if j = i then v else f j) :=
  ⟨h.below.setCell (by have := h.far; show w.heap.size ≤ g; omega) _, h.far, h.out.setOther (by have := h.far; show w.heap.size ≠ g; omega) _, (h.row.set i _).congr (fun j _ => by split <;> rfl)⟩
theorem SF3.congr {w wr : World} {g : Nat} {f f' : Nat → Nat} (h : SF3 w wr g f) (e : ∀ i, i < 32 → f i = f' i) : SF3 w wr g f' :=
  ⟨h.below, h.far, h.out, h.row.congr (fun i hi => by rw [e i hi])⟩
theorem sf3_start {w w1 w3 w4 : World} {p n g m : Nat} {X Y : Nat → Nat} (h1 : SF w w1 p n X) (h2 : SF2 w w1 w3 g m Y) (hs : Save (w.heap.size + 1) w3 w4) : SF3 w (w4.alloc (.cells Z32 38)) w4.heap.size (fun _ => 0) := by
  have a := h1.size
  have b := h2.below.size
  have c := hs.size
  have b13 : Below w.heap.size w w3 := h1.below.trans (h2.below.mono (by omega))
  have b14 : Below w.heap.size w w4 := b13.trans (hs.below (by omega) (by omega))
  refine ⟨b14.alloc (by omega) _, by omega, ?_, ?_⟩
  · have r := h1.out.of_block (h2.below.block _ (by omega))
    exact (hs.row r (by omega)).alloc _
  · rw [Z32_rep]
    exact zeros_row w4 _ 32 38

theorem w8_lt {s : W8} (h : Ok8 s) (i : Nat) : w8 s i < 4294967296 := by
  unfold w8
  split
  · exact h.a
  · exact h.b
  · exact h.c
  · exact h.d
  · exact h.e
  · exact h.f
  · exact h.g
  · exact h.h
theorem hb_at (s : W8) (k j : Nat) (hj : j < 4) : hb s (4 * k + j) = w8 s k / 2 ^ (24 - 8 * j) % 256 := by
  unfold hb
  rw [show (4 * k + j) / 4 = k by omega, show (4 * k + j) % 4 = j by omega]
theorem hstep_next (s : W8) (k i : Nat) : (if i = 4 * k + 3 then hb s (4 * k + 3) else if i = 4 * k + 2 then hb s (4 * k + 2) else if i = 4 * k + 1 then hb s (4 * k + 1) else if i = 4 * k then hb s (4 * k) else hstep s k i) = hstep s (k + 1) i := by
  unfold hstep
  by_cases e3 : i = 4 * k + 3
  · rw [if_pos e3, if_pos (by omega), e3]
  · rw [if_neg e3]
    by_cases e2 : i = 4 * k + 2
    · rw [if_pos e2, if_pos (by omega), e2]
    · rw [if_neg e2]
      by_cases e1 : i = 4 * k + 1
      · rw [if_pos e1, if_pos (by omega), e1]
      · rw [if_neg e1]
        by_cases e0 : i = 4 * k
        · rw [if_pos e0, if_pos (by omega), e0]
        · rw [if_neg e0]
          by_cases l : i < 4 * k
          · rw [if_pos l, if_pos (by omega)]
          · rw [if_neg l, if_neg (by omega)]

theorem run_index_word (w : World) (cs : Array Value) (k : Nat) (v : Value) (hk : k < 8) (hc : cs[k]? = some v) : (Instr.index 176 (.agg cs) (.int .i64 (k : Int))).run Tryz.prog w = .ok v w := by
  have i50 : (Tryz.prog.info? 90).map (·.size) = some 1 := by kernel_rfl
  have h1 : (0 : Int) ≤ (k : Int) ∧ (k : Int) < 8 := by omega
  cases hq : Tryz.prog.info? 90 with
  | none => simp [hq] at i50
  | some i =>
    have hs : i.size = 1 := by simpa [hq] using i50
    simp [Instr.index, asIntOf, Sem.run_bind, run_underlying Tryz.underlying176, h1, sizeOf, typeInfo, hq, hs, part, hc]
    omega

theorem StG.words {E : Env} {w : World} {p n : Nat} {X : Nat → Nat} (h : StG E w p n X) : ∀ j, j < (arr8 (folds X (n / 64))).size → w.cell? ⟨p, j, none⟩ = (arr8 (folds X (n / 64)))[j]? := by
  intro j hj
  have hj' : j < 8 := hj
  obtain ⟨R, r, _⟩ := h.ex
  rw [World.rowIs.cell r (i := j) (by have := E.big; omega), arr8_cell _ j hj']
  unfold stc
  rw [if_pos hj']

set_option maxRecDepth 100000 in
set_option maxHeartbeats 4000000 in
theorem sum_any {E : Env} (w : World) (p n : Nat) (X : Nat → Nat) (h : StG E w p n X) (hK : Roots w) (hw : 3 < w.heap.size) (hlen : n ≤ 576460752303423488) :
    Calls Tryz.prog 100 #[.pointer (some ⟨p, 0, none⟩)] w fun e w' => e = .returned (.agg (hashA (digest n X))) ∧ Below w.heap.size w w' := by
  have z54 := (zero_of_info info54).1
  have z56 := (zero_of_info info56).1
  obtain ⟨R, hr, hR, hq⟩ := h.ex
  have hl := StRow.len hr
  obtain ⟨cs, hsz, hcs, hg⟩ : ∃ cs : Array Value, cs.size = 73 ∧ (∀ i, i < 73 → cs[i]? = some (stc E0.tl (folds X (n / 64)) R n i)) ∧ ∀ j, j < cs.size → w.cell? ⟨p, j, none⟩ = cs[j]? := ⟨stA _ _ _, stA_size _ _ _, stA_cell _ _ _, StRow.part hr⟩
  have hi54 : (Tryz.prog.info? 217).map (·.size) = some cs.size := by rw [hsz]; exact (zero_of_info info54).2
  have h154 : cs.all (·.oneCell') = true := all_one (fun i hi => by
    have e := hcs i (by omega)
    unfold stc at e
    split at e
    · exact ⟨_, _, e⟩
    · split at e
      · exact ⟨_, _, e⟩
      · split at e
        · exact ⟨_, _, e⟩
        · exact ⟨_, _, e⟩)
  have F := sf_start h cs hl hsz hcs hR hq
  have hgA : ∀ j, j < cs.size → (w.alloc (.cells Z32 38)).cell? ⟨p, j, none⟩ = cs[j]? := fun j hj => (World.cell?_of_block (w := w) (heap_alloc_old _ _ h.lt)).trans (hg j hj)
  have hgB : ((w.alloc (.cells Z32 38)).alloc (.cells Z73 217)).heap[w.heap.size + 1]? = some (.cells Z73 217 (0, 0)) := by
    have := heap_alloc_new (w.alloc (.cells Z32 38)) (.cells Z73 217)
    rwa [World.size_alloc] at this
  have hso : Z73.size = cs.size := by rw [hsz]; rfl
  obtain ⟨k8, hk8⟩ : ∃ k, k = zend n + 8 := ⟨_, rfl⟩
  have hk9 : k8 ≤ 72 := by rw [hk8]; unfold zend; split <;> omega
  have HK8 : Hid (k8 = zend n + 8) := hk8
  have HF : Hid (SF w (wS w cs) p n X) := F
  clear F hg hcs hR hq hl hr
  go_enter Tryz.func100, Tryz.ntmps100
  go_wp2_with (first
    | refine wpList_load_cells rfl 217 (.tmp 13) rfl p rfl cs _ hgA Tryz.underlying217 rfl hi54 ?_
    | (refine wpList_store_row rfl 217 (.tmp 3) (.tmp 14) rfl (w.heap.size + 1) cs rfl rfl 217 Z73 hgB hi54 hso h154 ?_; change wpList _ _ _ _ _ (wS w cs); revert HF; generalize wS w cs = w1; intro HF; have l72 := HF.out.len))
  refine (padding_any _ n (by omega)).mono ?_
  rintro _ w2 ⟨⟨ps, rfl, psz, pcs⟩, hb2⟩
  rw [← hk8]
  clear hgA hgB hso h154 hi54
  have hi56 : (Tryz.prog.info? 218).map (·.size) = some ps.size := by rw [psz]; exact (zero_of_info info56).2
  have h156 : ps.all (·.oneCell') = true := all_one (fun i hi => ⟨_, _, pcs i (by omega)⟩)
  have hps : Z72.size = ps.size := by rw [psz]; rfl
  have hsl := fun w0 => slice_pad w0 w2.heap.size k8 hk9
  have HF2 : Hid (SF2 w w1 ((w2.alloc (.cells Z72 218)).setRow w2.heap.size ps) w2.heap.size k8 (padb n)) := sf2_start hb2 psz pcs hk9
  clear hk8 pcs l72
  go_wp2_with (refine wpList_store_row rfl 218 (.tmp 4) (.tmp 21) rfl w2.heap.size ps rfl rfl 218 Z72 (heap_alloc_new _ _) hi56 hps h156 ?_; revert HF2; generalize (w2.alloc (.cells Z72 218)).setRow w2.heap.size ps = w3; intro HF2)
  have hw1 := HF.out.size
  have sz3 := HF2.out.below.size
  have st3 : St w3 (w.heap.size + 1) n X := HF.out.st.below HF2.out.below
  have rt3 : Roots w3 := (hK.below HF.out.below hw).below HF2.out.below (by omega)
  have far := HF2.out.far
  refine (write_any w3 (w.heap.size + 1) n X st3 _ w2.heap.size 0 k8 72 (padb n) HF2.out.view (padb_lt n) (fun _ => by omega) hk9 rt3 (by omega) (by omega) (by omega)).mono ?_
  rintro _ w4 ⟨rfl, hs4, st4⟩
  have HF3 : Hid (SF3 w (w4.alloc (.cells Z32 38)) w4.heap.size (fun _ => 0)) := sf3_start HF.out HF2.out hs4
  have wd := (st4.below ((Below.refl _ _).alloc (Nat.le_refl _) (.cells Z32 38))).words
  have Hd : Hid (folds (cat n X (padb n)) ((n + k8) / 64) = digest n X) := by rw [HK8.out]; rfl
  have okd := folds_ok (cat n X (padb n)) ((n + k8) / 64)
  obtain ⟨sd, hsd⟩ : ∃ s, s = folds (cat n X (padb n)) ((n + k8) / 64) := ⟨_, rfl⟩
  rw [← hsd] at wd Hd okd
  clear hsd st4 hs4 st3 rt3 far sz3 hsl hps h156 hi56 HF2 hb2 hk9 HK8
  go_wp2_with (refine wpList_load_cells rfl 176 (.tmp 26) rfl (w.heap.size + 1) rfl (arr8 sd) _ wd Tryz.underlying176 rfl info51 ?_)
  clear wd
  go_loopg [28] 8 (fun g i wr => ∃ k : Nat, k ≤ 8 ∧ g = 8 - k ∧ i = .int .i64 k ∧ SF3 w wr w4.heap.size (hstep sd k))
  case atStart => exact ⟨0, by omega, rfl, rfl, HF3.out.congr (fun i _ => by simp [hstep])⟩
  case round =>
    obtain ⟨k, hk, rfl, rfl, hR⟩ := hrel
    clear HF3
    by_cases hkn : k < 8
    · have ai := arr8_cell sd k hkn
      have asz : (arr8 sd).size = 8 := rfl
      have lx := w8_lt okd k
      obtain ⟨x, hx⟩ : ∃ x, x = w8 sd k := ⟨_, rfl⟩
      rw [← hx] at ai lx
      have Hx : Hid (x = w8 sd k) := hx
      clear hx
      have g0 := hR.row.cell (i := 4 * k) (by omega)
      have g1 := hR.row.cell (i := 4 * k + 1) (by omega)
      have g2 := hR.row.cell (i := 4 * k + 2) (by omega)
      have g3 := hR.row.cell (i := 4 * k + 3) (by omega)
      have f0 := hR.row.frozen (4 * k)
      have f1 := hR.row.frozen (4 * k + 1)
      have f2 := hR.row.frozen (4 * k + 2)
      have f3 := hR.row.frozen (4 * k + 3)
      have HR : Hid (SF3 w wr w4.heap.size (hstep sd k)) := hR
      have hix := fun w0 => run_index_word w0 (arr8 sd) k _ hkn ai
      clear hR ai asz
      go_wp2_with fail
      have V0 : (x : Int) / 16777216 = ((hb sd (4 * k) : Nat) : Int) := by
        have e := hb_at sd k 0 (by omega)
        rw [Nat.add_zero] at e
        rw [e, ← Hx.out]
        simp only [Nat.mul_zero, Nat.sub_zero, Nat.reducePow]
        omega
      have V1 : (x : Int) / 65536 % 256 = ((hb sd (4 * k + 1) : Nat) : Int) := by
        rw [hb_at sd k 1 (by omega), ← Hx.out]
        simp
      have V2 : (x : Int) / 256 % 256 = ((hb sd (4 * k + 2) : Nat) : Int) := by
        rw [hb_at sd k 2 (by omega), ← Hx.out]
        simp
      have V3 : (x : Int) % 256 = ((hb sd (4 * k + 3) : Nat) : Int) := by
        rw [hb_at sd k 3 (by omega), ← Hx.out]
        simp
      rw [V0, V1, V2, V3]
      clear V0 V1 V2 V3 g0 g1 g2 g3 f0 f1 f2 f3 hix
      go_roundg (8 - (k + 1))
      case measure => omega
      case rel => exact ⟨k + 1, by omega, rfl, by go_num, ((((HR.out.set (4 * k) _).set (4 * k + 1) _).set (4 * k + 2) _).set (4 * k + 3) _).congr (fun i _ => hstep_next sd k i)⟩
    · have : k = 8 := by omega
      subst this
      obtain ⟨cs, hg, hsz, hcs⟩ := hR.row
      obtain ⟨os, og, osz, _⟩ := hR.out
      have hi : (Tryz.prog.info? 38).map (·.size) = some cs.size := by rw [hsz]; exact info26
      have h1 : cs.all (·.oneCell') = true := all_one (fun i hi => ⟨_, _, hcs i (by omega)⟩)
      have HR : Hid (SF3 w wr w4.heap.size (hstep sd 8)) := hR
      clear hR
      go_wp2_with (first
        | refine wpList_load_row rfl 38 (.tmp 6) rfl w4.heap.size rfl 38 cs (0, 0) _ hg Tryz.underlying38 rfl hi ?_
        | refine wpList_store_row rfl 38 (.tmp 2) (.tmp 59) rfl w.heap.size cs rfl rfl 38 os og hi (by omega) h1 ?_)
      refine bodyPost_ret (v := .agg cs) ?_ rfl ?_
      · exact results_cell_row rfl _ _ w.heap.size 38 cs (0, 0) _ rfl (setRow_heap _ _ _ _ _ _ og) Tryz.underlying38 rfl hi
      · exact ⟨by rw [← Hd.out, hashA_of hsz (fun i hi => by rw [hcs i hi]; unfold hstep; rw [if_pos (by omega)])], below_setRow HR.out.below (Nat.le_refl _) _⟩
end Go.Proofs.YtpmdjopojcgpeaaGreatDoor.Dg
