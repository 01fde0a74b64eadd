import Derived.Test.YtpmdjopojcgpeaaGreatDoorRSmq
import Derived.Deep.MidRow
import Derived.Deep.WholeRow
import Derived.Deep.Upon
import Derived.DeepKeys
/-
  Structs in memory: ranges of cells; loads, stores, builds of whole structs.
-/
namespace Go.Proofs.YtpmdjopojcgpeaaGreatDoor
open Go.RowKit

/-! ### ranges -/
theorem rng_left {w : World} {b o : Nat} {xs ys : List Value} (h : w.rangeAt b o (xs ++ ys)) : w.rangeAt b o xs := fun j v hv => h j v (by rw [List.getElem?_append_left (List.getElem?_eq_some_iff.1 hv).1]; exact hv)
theorem rng_right {w : World} {b o : Nat} {xs ys : List Value} (h : w.rangeAt b o (xs ++ ys)) : w.rangeAt b (o + xs.length) ys := fun j v hv => by
  have := h (xs.length + j) v (by rw [List.getElem?_append_right (by omega), Nat.add_sub_cancel_left]; exact hv)
  rw [← Nat.add_assoc] at this
  exact this
theorem rng_app {w : World} {b o : Nat} {xs ys : List Value} (h1 : w.rangeAt b o xs) (h2 : w.rangeAt b (o + xs.length) ys) : w.rangeAt b o (xs ++ ys) := fun j v hv => by
  by_cases hj : j < xs.length
  · rw [List.getElem?_append_left hj] at hv
    exact h1 j v hv
  · rw [List.getElem?_append_right (by omega)] at hv
    have := h2 (j - xs.length) v hv
    rw [show o + xs.length + (j - xs.length) = o + j by omega] at this
    exact this
theorem rng_head {w : World} {b o : Nat} {x : Value} {xs : List Value} (h : w.rangeAt b o (x :: xs)) : w.cell? ⟨b, o, none⟩ = some x ∧ w.rangeAt b (o + 1) xs :=
  ⟨h 0 x rfl, fun j v hv => by
    have := h (j + 1) v (by simpa using hv)
    rw [show o + (j + 1) = o + 1 + j by omega] at this
    exact this⟩
theorem rng_new (w : World) (cs : List Value) (t : TypeId) : (w.alloc (.cells cs.toArray t)).rangeAt w.heap.size 0 cs := fun j v hv => by
  rw [cell_of_row _ _ _ _ _ _ (heap_alloc_new w _), Nat.zero_add]
  simpa using hv
theorem rng_lt {w : World} {b o : Nat} {cs : List Value} (h : w.rangeAt b o cs) (h0 : 0 < cs.length) : b < w.heap.size := World.block_lt_of_cell? _ _ (h 0 _ (List.getElem?_eq_getElem h0))
theorem rng_same {w w' : World} {b o : Nat} {cs : List Value} (h : w.rangeAt b o cs) (k : w'.heap[b]? = w.heap[b]?) : w'.rangeAt b o cs := fun j v hv => (World.cell?_of_block (w := w) k).trans (h j v hv)
theorem rng_keep {w w' : World} {b o : Nat} {cs : List Value} (h : w.rangeAt b o cs) (k : Below w.heap.size w w') : w'.rangeAt b o cs := fun j v hv => by
  have h1 := h j v hv
  rw [k.cell (World.block_lt_of_cell? _ _ h1)]
  exact h1
theorem rng_row {w : World} {b : Nat} {cs : List Value} {t : TypeId} {fr : Nat × Nat} (h : w.heap[b]? = some (.cells cs.toArray t fr)) : w.rangeAt b 0 cs := fun j v hv => by
  rw [cell_of_row _ _ _ _ _ _ h, Nat.zero_add]
  simpa using hv

/-! ### a whole struct loaded in a guarded place -/
section
variable {ops : Array Oper} {rest : List Oper} {op : Oper} {a : Act} {w : World} {Q : Exit → Act → World → Prop}
theorem wpList_g {P : Program} (hw : Region.wanted op (yielded ops a.tmps) = true) (h : op.wp P a w (wpList P ops Q rest) Q) : wpList P ops Q (op :: rest) a w := by
  unfold wpList
  rw [if_pos hw]
  exact Or.inl h
theorem wpList_load_mid_g {P : Program} (hw : Region.wanted op (yielded ops a.tmps) = true) (ty : TypeId) (x : Operand) (ho : op.op = .load ty x)
    (b o : Nat) (hx : a.eval x = .pointer (some ⟨b, o, none⟩)) (cs : List Value) (d : TypeDesc) (hc : w.rangeAt b o cs)
    (hu : P.underlying ty = some d) (hd : d.isRow = true) (hi : (P.info? ty).map (·.size) = some cs.length)
    (h : wpList P ops Q rest (a.put op.dst (.agg cs.toArray)) w) : wpList P ops Q (op :: rest) a w :=
  wpList_g hw (wp_load_mid ty x ho b o hx cs d hc hu hd hi h)
end

/-! ### stores, builds -/
section
variable {ops : Array Oper} {rest : List Oper} {op : Oper} {a : Act} {w : World} {Q : Exit → Act → World → Prop}
/-- a struct stored into a new variable -/
theorem wpList_stN (hw : Region.wanted op (yielded ops a.tmps) = true) (T : TypeId) (x y : Operand) (ho : op.op = .store T x y) (cs old : List Value) (hi : (Tryz.prog.info? T).map (·.size) = some cs.length) (hl : cs.length = old.length) (h1 : cs.toArray.all (·.oneCell') = true)
    (hx : a.eval x = .pointer (some ⟨w.heap.size, 0, none⟩)) (hy : a.eval y = .agg cs.toArray) (h : wpList Tryz.prog ops Q rest (a.put op.dst undef) (w.alloc (.cells cs.toArray T))) :
    wpList Tryz.prog ops Q (op :: rest) a (w.alloc (.cells old.toArray T)) := by
  refine wpList_g hw (wp_store_row T x y ho w.heap.size cs.toArray hx hy T old.toArray (heap_alloc_new _ _) (by rw [List.size_toArray]; exact hi) (by rw [List.size_toArray, List.size_toArray, hl]) h1 ?_)
  rw [World.setRow_alloc_new]
  exact h
/-- a struct stored into a variable -/
theorem wpList_stB (hw : Region.wanted op (yielded ops a.tmps) = true) (T : TypeId) (x y : Operand) (ho : op.op = .store T x y) (b : Nat) (cs old : List Value) (hi : (Tryz.prog.info? T).map (·.size) = some cs.length) (hl : cs.length = old.length) (h1 : cs.toArray.all (·.oneCell') = true)
    (hb : w.heap[b]? = some (.cells old.toArray T (0, 0))) (hx : a.eval x = .pointer (some ⟨b, 0, none⟩)) (hy : a.eval y = .agg cs.toArray) (h : wpList Tryz.prog ops Q rest (a.put op.dst undef) (w.setRow b cs.toArray)) :
    wpList Tryz.prog ops Q (op :: rest) a w :=
  wpList_g hw (wp_store_row T x y ho b cs.toArray hx hy T old.toArray hb (by rw [List.size_toArray]; exact hi) (by rw [List.size_toArray, List.size_toArray, hl]) h1 h)
theorem wpList_bd (hw : Region.wanted op (yielded ops a.tmps) = true) (t : TypeId) (parts : Array (Nat × Operand)) (ho : op.op = .build t parts) (cells : Array Value)
    (hb : Tryz.prog.built t (parts.map fun (i, x) => (i, a.eval x)).toList = some cells) (h : wpList Tryz.prog ops Q rest (a.put op.dst (.agg cells)) w) : wpList Tryz.prog ops Q (op :: rest) a w := by
  refine wpList_g hw ?_
  unfold Oper.wp execOp
  simp only [ho, Sem.run_bind, run_build w t _ cells hb, Result.andThen_ok]
  exact h
theorem wpList_bdL (hw : Region.wanted op (yielded ops a.tmps) = true) (t : TypeId) (L : List (Nat × Operand)) (ho : op.op = .build t L.toArray) (cells : Array Value)
    (hb : Tryz.prog.built t (L.map fun (i, x) => (i, a.eval x)) = some cells) (h : wpList Tryz.prog ops Q rest (a.put op.dst (.agg cells)) w) : wpList Tryz.prog ops Q (op :: rest) a w :=
  wpList_bd hw t _ ho cells (by simp only [List.map_toArray]; exact hb) h
end

/-! ### the structs -/
def rgc (c : Int) (tag : List Nat) : List Value := .int .i64 c :: bv tag
def mdc (sl rm : Int) (bl lg : Value) (c : Int) (tag : List Nat) : List Value := .int .i64 sl :: .int .i64 rm :: bl :: lg :: rgc c tag
def rqc (k : Int) (key : List Nat) (b : Value) (n c : Int) (tag : List Nat) : List Value := .int .i64 k :: (bv key ++ b :: .int .i64 n :: rgc c tag)
def anc (b ks : Value) (c : Int) (tag : List Nat) (e : Int) : List Value := b :: ks :: (rgc c tag ++ [.int .i64 e])
def dvc (sl rm : Int) (bl lg : Value) (c : Int) (tag : List Nat) (dn : Bool) (ch ac ve st ls tc : Value) : List Value := .int .i64 sl :: .int .i64 rm :: bl :: lg :: (rgc c tag ++ [.bool dn, ch, ac, ve, st, ls, tc])
def z32 : List Nat := List.replicate 32 0
theorem z32_len : z32.length = 32 := by simp [z32]
theorem i33 : (Tryz.prog.info? 38).map (·.size) = some 32 := by kernel_rfl
theorem i39 : (Tryz.prog.info? 66).map (·.size) = some 33 := by kernel_rfl
theorem i54 : (Tryz.prog.info? 68).map (·.size) = some 37 := by kernel_rfl
theorem i74 : (Tryz.prog.info? 161).map (·.size) = some 36 := by kernel_rfl
theorem i77 : (Tryz.prog.info? 164).map (·.size) = some 68 := by kernel_rfl
theorem i72 : (Tryz.prog.info? 123).map (·.size) = some 44 := by kernel_rfl
theorem i27 : (Tryz.prog.info? 152).map (·.size) = some 3 := by kernel_rfl
theorem i93 : (Tryz.prog.info? 154).map (·.size) = some 3 := by kernel_rfl
theorem i89 : (Tryz.prog.info? 58).map (·.size) = some 33 := by kernel_rfl
theorem rgc_len {c : Int} {tag : List Nat} (h : tag.length = 32) : (rgc c tag).length = 33 := by simp [rgc, bv_len, h]
theorem mdc_len {sl rm : Int} {bl lg : Value} {c : Int} {tag : List Nat} (h : tag.length = 32) : (mdc sl rm bl lg c tag).length = 37 := by simp [mdc, rgc_len h]
theorem rqc_len {k : Int} {key : List Nat} {b : Value} {n c : Int} {tag : List Nat} (h : key.length = 32) (h' : tag.length = 32) : (rqc k key b n c tag).length = 68 := by simp [rqc, bv_len, h, rgc_len h']
theorem anc_len {b ks : Value} {c : Int} {tag : List Nat} {e : Int} (h : tag.length = 32) : (anc b ks c tag e).length = 36 := by simp [anc, rgc_len h]
theorem dvc_len {sl rm : Int} {bl lg : Value} {c : Int} {tag : List Nat} {dn : Bool} {ch ac ve st ls tc : Value} (h : tag.length = 32) : (dvc sl rm bl lg c tag dn ch ac ve st ls tc).length = 44 := by simp [dvc, rgc_len h]
end Go.Proofs.YtpmdjopojcgpeaaGreatDoor

/-
  media.limitsMayBe, countMayBe.
-/
namespace Go.Proofs.YtpmdjopojcgpeaaGreatDoor
open Go.RowKit

def limB (sl rm : Int) : Bool := decide (1 ≤ sl ∧ sl ≤ 4096 ∧ 0 ≤ rm ∧ rm ≤ 1048576)
def cntB (c : Int) : Bool := decide (1 ≤ c ∧ c ≤ 1099511627776)
set_option maxRecDepth 100000 in
set_option maxHeartbeats 800000 in
theorem limits_any (w : World) (sl rm : Int) (bl lg : Value) (c : Int) (tag : List Nat) :
    Calls Tryz.prog 82 #[.agg (mdc sl rm bl lg c tag).toArray] w fun e w' => e = .returned (.bool (limB sl rm)) ∧ Below w.heap.size w w' := by
  have hr := rng_new w (mdc sl rm bl lg c tag) 68
  have c0 : (w.alloc (.cells (mdc sl rm bl lg c tag).toArray 68)).cell? ⟨w.heap.size, 0, none⟩ = some (.int .i64 sl) := hr 0 _ rfl
  have c1 : (w.alloc (.cells (mdc sl rm bl lg c tag).toArray 68)).cell? ⟨w.heap.size, 1, none⟩ = some (.int .i64 rm) := hr 1 _ rfl
  obtain ⟨L, hL⟩ : ∃ L, L = (mdc sl rm bl lg c tag).toArray := ⟨_, rfl⟩
  rw [← hL] at c0 c1 ⊢
  have hb : ∀ t, Below w.heap.size w (w.alloc (.cells L t)) := fun t => (Below.refl _ _).alloc (Nat.le_refl _) _
  have HB : Hid (∀ t, Below w.heap.size w (w.alloc (.cells L t))) := hb
  clear hb hr hL
  by_cases h : 1 ≤ sl ∧ sl ≤ 4096 ∧ 0 ≤ rm ∧ rm ≤ 1048576
  · have HE : Hid (limB sl rm = true) := decide_eq_true h
    obtain ⟨h1, h2, h3, h4⟩ := h
    go_enter Tryz.func82, Tryz.ntmps82
    go_wp2_with fail
    go_ret
    exact ⟨by rw [HE.out]; rfl, HB.out _⟩
  · have HE : Hid (limB sl rm = false) := decide_eq_false h
    have hc : ¬ 1 ≤ sl ∨ (1 ≤ sl ∧ ¬ sl ≤ 4096) ∨ (1 ≤ sl ∧ sl ≤ 4096 ∧ ¬ 0 ≤ rm) ∨ (1 ≤ sl ∧ sl ≤ 4096 ∧ 0 ≤ rm ∧ ¬ rm ≤ 1048576) := by omega
    clear h
    rcases hc with h1 | ⟨h1, h2⟩ | ⟨h1, h2, h3⟩ | ⟨h1, h2, h3, h4⟩
    all_goals
      go_enter Tryz.func82, Tryz.ntmps82
      go_wp2_with fail
      go_ret
      exact ⟨by rw [HE.out]; rfl, HB.out _⟩
set_option maxRecDepth 100000 in
set_option maxHeartbeats 800000 in
theorem count_any (w : World) (c : Int) :
    Calls Tryz.prog 123 #[.int .i64 c] w fun e w' => e = .returned (.bool (cntB c)) ∧ w' = w := by
  by_cases h : 1 ≤ c ∧ c ≤ 1099511627776
  · have HE : Hid (cntB c = true) := decide_eq_true h
    obtain ⟨h1, h2⟩ := h
    go_enter Tryz.func123, Tryz.ntmps123
    go_wp2_with fail
    go_ret
    exact ⟨by rw [HE.out]; rfl, rfl⟩
  · have HE : Hid (cntB c = false) := decide_eq_false h
    have hc : ¬ 1 ≤ c ∨ (1 ≤ c ∧ ¬ c ≤ 1099511627776) := by omega
    clear h
    rcases hc with h1 | ⟨h1, h2⟩
    all_goals
      go_enter Tryz.func123, Tryz.ntmps123
      go_wp2_with fail
      go_ret
      exact ⟨by rw [HE.out]; rfl, rfl⟩
end Go.Proofs.YtpmdjopojcgpeaaGreatDoor
