import Derived.Test.YtlhllbggnpcoaaaDoorMem
import Derived.Shelf.SlSortCmp.WholeK
/-
  A row of structs that the call owns, sorted.
-/
namespace Go.Proofs.YtlhllbggnpcoaaaDoor
open Go.RowKit Go.Sort Go.Shelf Go.Lib

section
variable {α : Type} [Inhabited α] (enc : α → List Value) (k : Nat) (hk : ∀ x, (enc x).length = k) (h0 : 0 < k)
include hk h0
theorem flat_get : ∀ (l : List α) (j : Nat), j < l.length * k → (l.flatMap enc)[j]? = some ((enc l[j / k]!)[j % k]!)
  | [], j, h => by simp at h
  | x :: l, j, h => by
    rw [List.flatMap_cons]
    by_cases hj : j < k
    · rw [List.getElem?_append_left (by rw [hk]; exact hj), Nat.div_eq_of_lt hj, Nat.mod_eq_of_lt hj]
      have : j < (enc x).length := by rw [hk]; exact hj
      show (enc x)[j]? = some ((enc x)[j]!)
      rw [List.getElem?_eq_getElem this, getElem!_pos (enc x) j this]
    · rw [List.getElem?_append_right (by rw [hk]; omega), hk, flat_get l (j - k) (by simp only [List.length_cons, Nat.succ_mul] at h; omega)]
      have e : j = (j - k) + k := by omega
      have e1 : j / k = (j - k) / k + 1 := by rw [e, Nat.add_div_right _ h0, Nat.add_sub_cancel]
      have e2 : j % k = (j - k) % k := by rw [e, Nat.add_mod_right, Nat.add_sub_cancel]
      rw [e1, e2]
      rfl
omit [Inhabited α] h0 in
theorem flat_len (l : List α) : (l.flatMap enc).length = l.length * k := by
  induction l with
  | nil => simp
  | cons x l ih => rw [List.flatMap_cons, List.length_append, ih, hk, List.length_cons, Nat.succ_mul, Nat.add_comm]
theorem flatK_at (d : Array α) (j : Nat) (h : j < d.size * k) : (d.toList.flatMap enc)[j]? = some ((flatK enc k d)[j]!) := by
  rw [flat_get enc k hk h0 d.toList j (by simpa using h), get_flatK enc k d j h]
  have : d.toList[j / k]! = d[j / k]! := by
    rw [List.getElem!_eq_getElem?_getD, getElem!_def]
    simp only [Array.getElem?_toList]
    cases d[j / k]? <;> rfl
  rw [this]

variable {w : World} {B e g cap : Nat} {d : Array α}
theorem own_holds (h : w.ownsRow B e k (.slice (some ⟨g, 0, none⟩) d.size cap) d.size (d.toList.flatMap enc)) : HoldsK enc k w g 0 d ∧ g < w.heap.size ∧ B ≤ g := by
  rcases h.2 with ⟨h1, _⟩ | ⟨g', cap', cur, h1, hb, hg, hn, hm, hs, ht⟩
  · simp at h1
  · simp only [Value.slice.injEq, Option.some.injEq, Addr.mk.injEq, and_true, true_and] at h1
    obtain ⟨rfl, rfl⟩ := h1
    refine ⟨fun j hj => ?_, (Array.getElem?_eq_some_iff.1 hg).1, hb⟩
    rw [size_flatK] at hj
    have hc := flatK_at enc k hk h0 d j hj
    rw [← ht, List.getElem?_take, if_pos hj, Array.getElem?_toList] at hc
    refine ⟨?_, ?_⟩
    · rw [Nat.zero_add, cell_of_row w g j cur e (0, 0) hg]
      exact hc
    · rw [World.frozen?, hg]
      simp
theorem own_sorted (h : w.ownsRow B e k (.slice (some ⟨g, 0, none⟩) d.size cap) d.size (d.toList.flatMap enc)) (d' : Array α) (hd : d'.size = d.size) (m : Nat) (os : Array Obj) :
    (sortWorldK enc k w g 0 m d' os).ownsRow B e k (.slice (some ⟨g, 0, none⟩) d.size cap) d.size (d'.toList.flatMap enc) ∧ Turn (fun i => i = g) w (sortWorldK enc k w g 0 m d' os) := by
  rcases h.2 with ⟨h1, _⟩ | ⟨g', cap', cur, h1, hb, hg, hn, hm, hs, ht⟩
  · simp at h1
  · simp only [Value.slice.injEq, Option.some.injEq, Addr.mk.injEq, and_true, true_and] at h1
    obtain ⟨rfl, rfl⟩ := h1
    have hl : g < w.heap.size := (Array.getElem?_eq_some_iff.1 hg).1
    have hsz : (putRowK enc k (Sort.ahead w m) g 0 d').heap.size = w.heap.size := by unfold putRowK; rw [size_putRow]; rfl
    have blk : ∀ i, i < w.heap.size → (sortWorldK enc k w g 0 m d' os).heap[i]? = (putRowK enc k (Sort.ahead w m) g 0 d').heap[i]? := fun i hi => by
      unfold sortWorldK grow
      exact Array.getElem?_append_left (by rw [hsz]; exact hi)
    refine ⟨⟨by rw [flat_len enc k hk]; simp [hd], .inr ⟨g, cap, putCells id 0 (flatK enc k d') cur, rfl, hb, ?_, hn, hm, by simp [putCells, hs], ?_⟩⟩, rfl, rfl, rfl, ?_, fun i hi hne => ?_⟩
    · rw [blk g hl]
      show ((w.heap.modify g _)[g]?) = _
      rw [Array.getElem?_modify, if_pos rfl, hg]
      rfl
    · apply List.ext_getElem?
      intro j
      by_cases hj : j < d.size * k
      · rw [List.getElem?_take, if_pos hj, Array.getElem?_toList, flatK_at enc k hk h0 d' j (by rw [hd]; exact hj)]
        have hjc : j < cur.size := by rw [hs]; exact Nat.lt_of_lt_of_le hj (Nat.mul_le_mul_right _ hn)
        unfold putCells
        rw [Array.getElem?_mapIdx, Array.getElem?_eq_getElem hjc]
        simp only [Option.map_some, Nat.zero_le, true_and, Nat.zero_add, size_flatK, hd, hj, if_true, id, Nat.sub_zero]
      · rw [List.getElem?_eq_none (by rw [List.length_take]; omega), List.getElem?_eq_none (by rw [flat_len enc k hk]; simp [hd]; omega)]
    · unfold sortWorldK grow
      simp only [Array.size_append]
      rw [hsz]
      omega
    · rw [blk i hi]
      show ((w.heap.modify g _)[i]?) = _
      rw [Array.getElem?_modify, if_neg (fun q => hne q.symm)]
end
end Go.Proofs.YtlhllbggnpcoaaaDoor
