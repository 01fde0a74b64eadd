import Derived.Test.YtddpcoglbmlgcaaGreatDoorNRizz
/-
  readList.
-/
namespace Go.Proofs.YtddpcoglbmlgcaaGreatDoor
open Go.RowKit
theorem infoIt : (Tryz.prog.info? 134).map (fun i => (i.zero, i.size, i.bytes)) = some (some (.agg #[.bool false, .slice none 0 0, .slice none 0 0]), 3, 56) := by kernel_rfl
/-- a block of three cells -/
abbrev Bx (w : World) (g : Nat) (t : TypeId) (x y z : Value) : Prop := w.heap[g]? = some (.cells #[x, y, z] t (0, 0))
theorem Bx.cells {w : World} {g : Nat} {t : TypeId} {x y z : Value} (h : Bx w g t x y z) : w.cell? ⟨g, 0, none⟩ = some x ∧ w.cell? ⟨g, 1, none⟩ = some y ∧ w.cell? ⟨g, 2, none⟩ = some z ∧ ∀ j, w.frozen? ⟨g, j, none⟩ = false := by
  have q : ∀ j, w.cell? ⟨g, j, none⟩ = #[x, y, z][j]? := fun j => cell_of_row _ _ _ _ _ _ h
  have r : w.rowIs g t 3 (fun i => (#[x, y, z] : Array Value).getD i x) := ⟨_, h, rfl, fun i hi => by
    show _ = some ((#[x, y, z] : Array Value).getD i x)
    rw [Array.getD_eq_getD_getElem?, Array.getElem?_eq_getElem (by simpa using hi)]
    rfl⟩
  exact ⟨q 0, q 1, q 2, fun j => r.frozen j⟩
theorem Bx.lt {w : World} {g : Nat} {t : TypeId} {x y z : Value} (h : Bx w g t x y z) : g < w.heap.size := (Array.getElem?_eq_some_iff.1 h).1
theorem Bx.keep {w w' : World} {g : Nat} {t : TypeId} {x y z : Value} (h : Bx w g t x y z) (k : w'.heap[g]? = w.heap[g]?) : Bx w' g t x y z := k.trans h
theorem Bx.set2 {w : World} {g : Nat} {t : TypeId} {x y z z' : Value} (h : Bx w g t x y z) : Bx (w.setCell ⟨g, 2, none⟩ z') g t x y z' := by
  have hl := h.lt
  simp only [Bx, World.setCell, Array.getElem?_modify, if_true] at h ⊢
  rw [h]
  rfl
theorem Bx.set3 {w : World} {g : Nat} {t : TypeId} {x y z x' y' z' : Value} (h : Bx w g t x y z) : Bx (set3 w g x' y' z') g t x' y' z' := by
  have hl := h.lt
  simp only [Bx, Go.Proofs.YtddpcoglbmlgcaaGreatDoor.set3, World.setCell, Array.getElem?_modify, if_true] at h ⊢
  rw [h]
  rfl
/-- THE LIST AS FAR AS IT IS READ: v its items' slice, in the box behind the result's. -/
structure Rl (w wr : World) (v : Value) (xs : List It) (ys : List (Bool × Value × Value)) (s t : Nat → Nat) : Prop where
  own : wr.ownsRow (w.heap.size + 2) 134 3 v xs.length (fl ys)
  len : ys.length = xs.length
  h1 : ∀ i, i < xs.length → w.heap.size + 2 ≤ s i
  h2 : ∀ i, i + 1 < xs.length → t i ≤ s (i + 1)
  h3 : ∀ i, i < xs.length → t i ≤ wr.heap.size
  h4 : ∀ i, i < xs.length → s i ≤ t i
  hb : ∀ (i : Nat) (x : It) (y : Bool × Value × Value), xs[i]? = some x → ys[i]? = some y → y.1 = x.l
  hr : ∀ (i : Nat) (x : It) (y : Bool × Value × Value), xs[i]? = some x → ys[i]? = some y → Own wr (s i) (t i) x y.2.1 y.2.2
  ap : ∀ q, v.ownBlock = some q → ∀ i, i < xs.length → q < s i ∨ t i ≤ q
  below : Below w.heap.size w wr
  res : Bx wr w.heap.size 134 (.bool false) (.slice none 0 0) (.slice none 0 0)
  box : Bx wr (w.heap.size + 1) 134 (.bool true) (.slice none 0 0) v
theorem Rl.size {w wr : World} {v : Value} {xs : List It} {ys : List (Bool × Value × Value)} {s t : Nat → Nat} (h : Rl w wr v xs ys s t) : w.heap.size + 2 ≤ wr.heap.size := by have := h.box.lt; omega
theorem Rl.start {w w2 : World} (hb : Below w.heap.size w w2) (h1 : Bx w2 w.heap.size 134 (.bool false) (.slice none 0 0) (.slice none 0 0)) (h2 : Bx w2 (w.heap.size + 1) 134 (.bool true) (.slice none 0 0) (.slice none 0 0)) :
    Rl w w2 (.slice none 0 0) [] [] (fun _ => 0) (fun _ => 0) :=
  ⟨⟨rfl, Or.inl ⟨rfl, rfl⟩⟩, rfl, fun i hi => by simp at hi, fun i hi => by simp at hi, fun i hi => by simp at hi, fun i hi => by simp at hi, fun i x y hx => by simp at hx, fun i x y hx => by simp at hx, fun q hq => (by cases hq), hb, h1, h2⟩
theorem Rl.next {w wr w2 w5 : World} {v v' vb vi : Value} {xs : List It} {ys : List (Bool × Value × Value)} {s t : Nat → Nat} {y : It} {o o' : Obj} (h : Rl w wr v xs ys s t)
    (b2 : Below (wr.alloc o).heap.size (wr.alloc o) w2) (ho : Own w2 (wr.alloc o).heap.size w2.heap.size y vb vi)
    (own' : w5.ownsRow (w.heap.size + 2) 134 3 v' (xs.length + 1) (fl ys ++ [.bool y.l, vb, vi])) (gr : ((set3 w2 wr.heap.size (.bool y.l) vb vi).alloc o').grownBy w5 v.ownBlock)
    (hg : ∀ g, v'.ownBlock = some g → v.ownBlock = some g ∨ w2.heap.size ≤ g) :
    Rl w (w5.setCell ⟨w.heap.size + 1, 2, none⟩ v') v' (xs ++ [y]) (ys ++ [(y.l, vb, vi)]) (fun i => if i = xs.length then wr.heap.size + 1 else s i) (fun i => if i = xs.length then w2.heap.size else t i) := by
  have z0 := h.size
  have s1 : (wr.alloc o).heap.size = wr.heap.size + 1 := by simp
  rw [s1] at b2 ho
  have z2 := b2.size
  rw [s1] at z2
  have z5 : w2.heap.size + 1 ≤ w5.heap.size := by have := gr.size; simpa using this
  have vlt : ∀ q, v.ownBlock = some q → w.heap.size + 2 ≤ q ∧ q < wr.heap.size := fun q hq => h.own.lt q hq
  -- what of the heap stays
  have key : ∀ k, k < w2.heap.size → k ≠ wr.heap.size → v.ownBlock ≠ some k → k ≠ w.heap.size + 1 → (w5.setCell ⟨w.heap.size + 1, 2, none⟩ v').heap[k]? = w2.heap[k]? := fun k k1 k2 k3 k4 => by
    rw [Below.heap_setCell _ _ _ _ (fun e => k4 e), gr.block k (by simp; omega) (fun e => k3 e.symm)]
    have e1 : ((set3 w2 wr.heap.size (.bool y.l) vb vi).alloc o').heap[k]? = (set3 w2 wr.heap.size (.bool y.l) vb vi).heap[k]? := heap_alloc_old _ _ (by simp; omega)
    rw [e1]
    exact (set3_turn w2 wr.heap.size (.bool y.l) vb vi).block k k1 k2
  have old : ∀ k, k < wr.heap.size → w2.heap[k]? = wr.heap[k]? := fun k hk => by
    rw [b2.block k (by omega)]
    exact heap_alloc_old _ _ hk
  have n1 : (xs ++ [y]).length = xs.length + 1 := by simp
  refine ⟨?_, by simp [h.len], fun i hi => ?_, fun i hi => ?_, fun i hi => ?_, fun i hi => ?_, fun i x q hx hq => ?_, fun i x q hx hq => ?_, fun q hq i hi => ?_, ?_, ?_, ?_⟩
  · rw [n1, fl_app]
    refine own_same own' (fun g hg' => ?_)
    exact Below.heap_setCell _ _ _ _ (fun e => by have := (own'.lt g hg').1; simp at e; omega)
  · rw [n1] at hi
    by_cases e : i = xs.length
    · simp only [if_pos e]; omega
    · simp only [if_neg e]; exact h.h1 i (by omega)
  · rw [n1] at hi
    by_cases e : i + 1 = xs.length
    · simp only [if_pos e, if_neg (show ¬ i = xs.length by omega)]
      have := h.h3 i (by omega)
      omega
    · simp only [if_neg e, if_neg (show ¬ i = xs.length by omega)]
      exact h.h2 i (by omega)
  · rw [n1] at hi
    have e5 : (w5.setCell ⟨w.heap.size + 1, 2, none⟩ v').heap.size = w5.heap.size := by simp
    rw [e5]
    by_cases e : i = xs.length
    · simp only [if_pos e]; omega
    · simp only [if_neg e]
      have := h.h3 i (by omega)
      omega
  · rw [n1] at hi
    by_cases e : i = xs.length
    · simp only [if_pos e]; omega
    · simp only [if_neg e]; exact h.h4 i (by omega)
  · by_cases e : i < xs.length
    · rw [List.getElem?_append_left e] at hx
      rw [List.getElem?_append_left (by have := h.len; omega)] at hq
      exact h.hb i x q hx hq
    · have hi := (List.getElem?_eq_some_iff.1 hx).1
      rw [n1] at hi
      have e2 : i = xs.length := by omega
      subst e2
      rw [List.getElem?_append_right (by omega)] at hx
      rw [List.getElem?_append_right (by have := h.len; omega)] at hq
      simp at hx
      simp [h.len] at hq
      subst hx
      subst hq
      rfl
  · by_cases e : i < xs.length
    · rw [List.getElem?_append_left e] at hx
      rw [List.getElem?_append_left (by have := h.len; omega)] at hq
      simp only [if_neg (show ¬ i = xs.length by omega)]
      have a1 := h.h1 i e
      have a3 := h.h3 i e
      refine (h.hr i x q hx hq).same (fun k k1 k2 => ?_)
      rw [key k (by omega) (by omega) (fun e2 => by have := h.ap k e2 i e; omega) (by omega), old k (by omega)]
    · have hi := (List.getElem?_eq_some_iff.1 hx).1
      rw [n1] at hi
      have e2 : i = xs.length := by omega
      subst e2
      rw [List.getElem?_append_right (by omega)] at hx
      rw [List.getElem?_append_right (by have := h.len; omega)] at hq
      simp at hx
      simp [h.len] at hq
      subst hx
      subst hq
      simp only [if_true]
      exact ho.same (fun k k1 k2 => key k k2 (by omega) (fun e2 => by have := (vlt k e2).2; omega) (by omega))
  · rw [n1] at hi
    rcases hg q hq with hq' | hq'
    · have := vlt q hq'
      by_cases e : i = xs.length
      · simp only [if_pos e]; omega
      · simp only [if_neg e]; exact h.ap q hq' i (by omega)
    · by_cases e : i = xs.length
      · simp only [if_pos e]; omega
      · simp only [if_neg e]
        have := h.h3 i (by omega)
        omega
  · refine ⟨?_, ?_, ?_, ?_, fun k hk => ?_⟩
    · exact gr.os.trans (b2.os.trans h.below.os)
    · exact gr.tape.trans (b2.tape.trans h.below.tape)
    · exact gr.output.trans (b2.output.trans h.below.output)
    · have : (w5.setCell ⟨w.heap.size + 1, 2, none⟩ v').heap.size = w5.heap.size := by simp
      omega
    · rw [key k (by omega) (by omega) (fun e2 => by have := (vlt k e2).1; omega) (by omega), old k (by omega)]
      exact h.below.block k hk
  · refine h.res.keep ?_
    rw [key _ (by omega) (by omega) (fun e2 => by have := (vlt _ e2).1; omega) (by omega), old _ (by omega)]
  · have : Bx w5 (w.heap.size + 1) 134 (.bool true) (.slice none 0 0) v := by
      refine h.box.keep ?_
      rw [gr.block _ (by simp; omega) (fun e2 => by have := (vlt _ e2.symm).1; omega)]
      have e1 : ((set3 w2 wr.heap.size (.bool y.l) vb vi).alloc o').heap[w.heap.size + 1]? = (set3 w2 wr.heap.size (.bool y.l) vb vi).heap[w.heap.size + 1]? := heap_alloc_old _ _ (by simp; omega)
      rw [e1, (set3_turn w2 wr.heap.size (.bool y.l) vb vi).block _ (by omega) (by omega), old _ (by omega)]
    exact this.set2
end Go.Proofs.YtddpcoglbmlgcaaGreatDoor
