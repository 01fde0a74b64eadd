/-
  The calls of a nil device, each with its answer; lists of choices.
-/
import Derived.Test.YthjcndlapelnlaaFx
import Derived.Test.YthjcndlapelnlaaRg
import Derived.Test.YthjcndlapelnlaaSe
import Derived.Test.YthjcndlapelnlaaNw
namespace Go.Proofs.Ythjcndlapelnlaa
open Go.RowKit Go.Maps Go.ChangeMaps

theorem b3 {w w1 w2 w3 : World} (h1 : Below w.heap.size w w1) (h2 : Below w1.heap.size w1 w2) (h3 : Below w2.heap.size w2 w3) : Below w.heap.size w w3 := ch (ch h1 h2) h3
theorem get_nil (w : World) {key : List Nat} (hk : key.length = 32) : Calls Try.prog 7 #[.pointer none, .agg (bv key).toArray] w fun e w' => e = .returned (.tuple #[nilS, .int .i64 1]) ∧ Below w.heap.size w w' :=
  (get_of hk (fun w1 _ => acc_nil w1 _)).mono (by
    rintro e w' ⟨w1, w2, b, ks, c, tag, er, rfl, h1, ⟨rfl, rfl, rfl, rfl, rfl, h2⟩, h3⟩
    exact ⟨rfl, b3 h1 h2 h3⟩)
theorem list_nil (w : World) : Calls Try.prog 8 #[.pointer none] w fun e w' => e = .returned (.tuple #[nilS, .int .i64 1]) ∧ Below w.heap.size w w' :=
  (list_of (fun w1 _ => acc_nil w1 _)).mono (by
    rintro e w' ⟨w1, w2, b, ks, c, tag, er, rfl, h1, ⟨rfl, rfl, rfl, rfl, rfl, h2⟩, h3⟩
    exact ⟨rfl, b3 h1 h2 h3⟩)
theorem read_nil (w : World) : Calls Try.prog 9 #[.pointer none] w fun e w' => e = .returned (.tuple #[nilS, .int .i64 1]) ∧ Below w.heap.size w w' :=
  (read_of (fun w1 _ => acc_nil w1 _)).mono (by
    rintro e w' ⟨w1, w2, b, ks, c, tag, er, rfl, h1, ⟨rfl, rfl, rfl, rfl, rfl, h2⟩, h3⟩
    exact ⟨rfl, b3 h1 h2 h3⟩)
theorem reg_nil (w : World) : Calls Try.prog 10 #[.pointer none] w fun e w' => e = .returned (.tuple #[.agg (rgc 0 z32).toArray, .int .i64 1]) ∧ Below w.heap.size w w' :=
  (reg_of (acc_nil _ _) (by
    rintro w2 b ks c tag er ⟨rfl, rfl, rfl, rfl, rfl, h2⟩
    exact (h2.block _ (by simp)).trans (heap_alloc_new _ _))).mono (by
    rintro e w' ⟨w2, b, ks, c, tag, er, rfl, ⟨rfl, rfl, rfl, rfl, rfl, h2⟩, h3⟩
    have k : Below w.heap.size w w2 := ch ((Below.refl _ _).alloc (Nat.le_refl _) _) h2
    exact ⟨rfl, k.trans (h3.below (fun i q => by omega) k.size)⟩)
theorem put_nil (w : World) {key : List Nat} (hk : key.length = 32) : Calls Try.prog 11 #[.pointer none, .agg (bv key).toArray, nilS] w fun e w' => e = .returned (.int .i64 1) ∧ Below w.heap.size w w' :=
  (put_of hk (fun w1 _ => acc_nil w1 _)).mono (by
    rintro e w' ⟨w1, w2, b, ks, c, tag, er, rfl, h1, ⟨rfl, rfl, rfl, rfl, rfl, h2⟩, h3⟩
    exact ⟨rfl, b3 h1 h2 h3⟩)
theorem delete_nil (w : World) {key : List Nat} (hk : key.length = 32) : Calls Try.prog 12 #[.pointer none, .agg (bv key).toArray] w fun e w' => e = .returned (.int .i64 1) ∧ Below w.heap.size w w' :=
  (delete_of hk (fun w1 _ => acc_nil w1 _)).mono (by
    rintro e w' ⟨w1, w2, b, ks, c, tag, er, rfl, h1, ⟨rfl, rfl, rfl, rfl, rfl, h2⟩, h3⟩
    exact ⟨rfl, b3 h1 h2 h3⟩)
theorem append_nil (w : World) : Calls Try.prog 13 #[.pointer none, nilS] w fun e w' => e = .returned (.int .i64 1) ∧ Below w.heap.size w w' :=
  (append_of (fun w1 _ => acc_nil w1 _)).mono (by
    rintro e w' ⟨w1, w2, b, ks, c, tag, er, rfl, h1, ⟨rfl, rfl, rfl, rfl, rfl, h2⟩, h3⟩
    exact ⟨rfl, b3 h1 h2 h3⟩)
theorem trim_nil (w : World) (n : Int) : Calls Try.prog 14 #[.pointer none, .int .i64 n] w fun e w' => e = .returned (.int .i64 1) ∧ Below w.heap.size w w' :=
  (trim_of (fun w1 _ => acc_nil w1 _)).mono (by
    rintro e w' ⟨w1, w2, b, ks, c, tag, er, rfl, h1, ⟨rfl, rfl, rfl, rfl, rfl, h2⟩, h3⟩
    exact ⟨rfl, b3 h1 h2 h3⟩)
theorem cut_nil (w : World) (n : Int) : Calls Try.prog 15 #[.pointer none, .int .i64 n] w fun e w' => e = .returned (.int .i64 1) ∧ Below w.heap.size w w' :=
  (cut_of (fun w1 _ => acc_nil w1 _)).mono (by
    rintro e w' ⟨w1, w2, b, ks, c, tag, er, rfl, h1, ⟨rfl, rfl, rfl, rfl, rfl, h2⟩, h3⟩
    exact ⟨rfl, b3 h1 h2 h3⟩)
theorem setreg_nil (w : World) : Calls Try.prog 16 #[.pointer none, .agg (rgc 0 z32).toArray] w fun e w' => e = .returned (.int .i64 1) ∧ Below w.heap.size w w' :=
  (setreg_of z32_len (fun w1 _ => acc_nil w1 _)).mono (by
    rintro e w' ⟨w1, w2, b, ks, c, tag, er, rfl, h1, ⟨rfl, rfl, rfl, rfl, rfl, h2⟩, h3⟩
    exact ⟨rfl, b3 h1 h2 h3⟩)
theorem built39_0 : Try.prog.built 39 [] = some (rgc 0 z32).toArray := by kernel_rfl
/-- one choice -/
theorem chs_one (w : World) (x : Cho) : Chs (w.alloc (.cells #[.int .i64 x.k, .int .i64 x.n, .int .i64 x.m] 27)) (.slice (some ⟨w.heap.size, 0, none⟩) 1 1) [x] :=
  ⟨_, w.heap.size, 0, 1, rfl, fun _ => rfl, fun i y hy => by
    cases i with
    | zero =>
      simp at hy
      subst hy
      exact rng_new w [.int .i64 x.k, .int .i64 x.n, .int .i64 x.m] 27
    | succ i => simp at hy, Nat.le_refl _, (fun e => by cases e), by simp⟩
/-- choices that were made -/
theorem chs_made (w : World) (n : Nat) (hl : n ≤ 5864062014464) : Chs (w.alloc (.cells (madeCells #[.int .i64 0, .int .i64 0, .int .i64 0] (n * 3)) 27)) (.slice (some ⟨w.heap.size, 0, none⟩) n n) (List.replicate n ⟨0, 0, 0⟩) := by
  refine ⟨_, w.heap.size, 0, n, by rw [List.length_replicate], fun _ => rfl, fun i y hy j v hv => ?_, by rw [List.length_replicate]; exact Nat.le_refl _, (fun e => by cases e), by rw [List.length_replicate]; exact hl⟩
  have hi : i < n := by
    have := (List.getElem?_eq_some_iff.1 hy).1
    rw [List.length_replicate] at this
    exact this
  have ey : y = ⟨0, 0, 0⟩ := List.eq_of_mem_replicate (List.mem_of_getElem? hy)
  subst ey
  have hj : j < 3 := (List.getElem?_eq_some_iff.1 hv).1
  have ev : v = .int .i64 0 := by
    have := List.mem_of_getElem? hv
    simp only [Cho.cells, List.mem_cons, List.not_mem_nil, or_false] at this
    rcases this with h | h | h <;> exact h
  rw [cell_of_row _ _ _ _ _ _ (heap_alloc_new _ _), ev]
  unfold madeCells
  rw [Array.getElem?_map, Array.getElem?_range, if_pos (by omega)]
  have hm : (0 + i * 3 + j) % 3 = j := by omega
  simp only [Option.map_some, List.size_toArray, List.length_cons, List.length_nil, hm]
  rcases (by omega : j = 0 ∨ j = 1 ∨ j = 2) with rfl | rfl | rfl <;> rfl
theorem chsB_long (n : Nat) (h : 4096 < n) : chsB (List.replicate n ⟨0, 0, 0⟩) = false := by
  unfold chsB
  rw [List.length_replicate, decide_eq_false (by omega), Bool.and_false]
theorem chsB_made (n : Nat) (h : n ≤ 4096) : chsB (List.replicate n ⟨0, 0, 0⟩) = true := by
  unfold chsB
  rw [List.length_replicate, decide_eq_true h, Bool.and_true, List.all_eq_true]
  intro x hx
  rw [List.eq_of_mem_replicate hx]
  rfl
end Go.Proofs.Ythjcndlapelnlaa
