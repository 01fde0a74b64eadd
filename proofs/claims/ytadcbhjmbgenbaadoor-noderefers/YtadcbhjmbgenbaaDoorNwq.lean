import Derived.Test.YtadcbhjmbgenbaaDoorRHcq
import Derived.Test.YtadcbhjmbgenbaaDoorAppq
/-
  A book: New. The laws' own Secret and Bits.
-/
namespace Go.Proofs.YtadcbhjmbgenbaaDoor
open Go.RowKit Go.Sort Go.Maps

theorem maybe_yes (w : World) (n : Int) (h1 : 8 ≤ n) (h2 : n ≤ 256) : Calls Tryd.prog 16 #[.int .i64 n] w fun e w' => e = .returned (.bool true) ∧ w' = w := by
  go_enter Tryd.func16, Tryd.ntmps16
  go_wp2
  go_ret
  exact ⟨rfl, rfl⟩
theorem maybe_low (w : World) (n : Int) (h1 : n < 8) : Calls Tryd.prog 16 #[.int .i64 n] w fun e w' => e = .returned (.bool false) ∧ w' = w := by
  have h2 : ¬ 8 ≤ n := by omega
  go_enter Tryd.func16, Tryd.ntmps16
  go_wp2
  go_ret
  exact ⟨rfl, rfl⟩
theorem maybe_high (w : World) (n : Int) (h1 : 256 < n) : Calls Tryd.prog 16 #[.int .i64 n] w fun e w' => e = .returned (.bool false) ∧ w' = w := by
  have h2 : 8 ≤ n := by omega
  have h3 : ¬ n ≤ 256 := by omega
  go_enter Tryd.func16, Tryd.ntmps16
  go_wp2
  go_ret
  exact ⟨rfl, rfl⟩
theorem maybe_no (w : World) (n : Int) (h : n < 8 ∨ 256 < n) : Calls Tryd.prog 16 #[.int .i64 n] w fun e w' => e = .returned (.bool false) ∧ w' = w := by
  rcases h with h | h
  · exact maybe_low w n h
  · exact maybe_high w n h

/-- ErrBits -/
theorem new_bits1 (w : World) (n m : Int) (v : Value) (h : n < 8 ∨ 256 < n) : Calls Tryd.prog 5 #[.int .i64 n, .int .i64 m, v] w fun e w' => e = .returned (.tuple #[.pointer none, .int .i64 40]) ∧ w' = w := by
  have c1 := maybe_no w n h
  go_enter Tryd.func5, Tryd.ntmps5
  go_wp2_with (go_at_call 16; refine c1.mono ?_; rintro _ w' ⟨rfl, hw'⟩; have hw'' := hw'.symm; subst hw'')
  go_ret2
  exact ⟨rfl, rfl⟩
theorem new_bits2 (w : World) (n m : Int) (v : Value) (h1 : 8 ≤ n) (h2 : n ≤ 256) (h : m < 8 ∨ 256 < m) : Calls Tryd.prog 5 #[.int .i64 n, .int .i64 m, v] w fun e w' => e = .returned (.tuple #[.pointer none, .int .i64 40]) ∧ w' = w := by
  have c1 := maybe_yes w n h1 h2
  have c2 := maybe_no w m h
  go_enter Tryd.func5, Tryd.ntmps5
  go_wp2_with fail
  refine c1.mono ?_
  rintro _ w' ⟨rfl, hw'⟩
  have hw'' := hw'.symm
  subst hw''
  go_wp2_with fail
  refine c2.mono ?_
  rintro _ w' ⟨rfl, hw'⟩
  have hw'' := hw'.symm
  subst hw''
  go_wp2_with fail
  go_ret2
  exact ⟨rfl, rfl⟩

theorem infoN : (Tryd.prog.info? 46).map (fun i => (i.zero, i.size)) = some (some (.agg #[.map none, .int .i64 0]), 2) := by kernel_rfl
theorem infoN2 : (Tryd.prog.info? 46).map (·.size) = some 2 := by kernel_rfl

set_option maxRecDepth 100000 in
theorem blank_any (w : World) : Calls Tryd.prog 17 #[] w fun e w' => e = .returned (.agg #[.map (some (w.heap.size + 1)), .int .i64 0]) ∧ Below w.heap.size w w' ∧ (∀ κ, Notes w' (w.heap.size + 1) (fun i => i = w.heap.size + 1) κ []) ∧ w.heap.size + 1 < w'.heap.size := by
  have z64 := (zero_of_info infoN).1
  have hmm := @run_makeMap Tryd.prog
  have hi : (Tryd.prog.info? 46).map (·.size) = some (#[.map (some (w.heap.size + 1)), .int .i64 0] : Array Value).size := infoN2
  have hr : ((w.alloc (.cells #[.map (some (w.heap.size + 1)), .int .i64 0] 46)).alloc (.map #[] 0)).heap[w.heap.size]? = some (.cells #[.map (some (w.heap.size + 1)), .int .i64 0] 46 (0, 0)) := (heap_alloc_old _ _ (by simp)).trans (heap_alloc_new _ _)
  go_enter Tryd.func17, Tryd.ntmps17
  go_wp2_with fail
  refine bodyPost_ret (v := .agg #[.map (some (w.heap.size + 1)), .int .i64 0]) ?_ rfl ?_
  · exact results_cell_row rfl _ _ w.heap.size 46 #[.map (some (w.heap.size + 1)), .int .i64 0] (0, 0) _ rfl hr Tryd.underlying46 rfl hi
  · refine ⟨rfl, ((Below.refl _ _).alloc (Nat.le_refl _) _).alloc (by simp) _, fun κ => ?_, by simp⟩
    have := notes_new (w.alloc (.cells #[.map (some (w.heap.size + 1)), .int .i64 0] 46)) κ
    rw [World.size_alloc] at this
    exact this

/-- a new book's cells, ahead of the secret -/
def bk0 (bits cbits bh bc bf : Nat) : Array Value := #[.int .i64 bits, .int .i64 cbits] ++ Array.replicate 32 (.int .u8 0) ++ #[.int .i32 0, .int .u32 0, .map (some bh), .int .i64 0, .map (some bc), .int .i64 0, .map (some bf), .int .i64 0]
theorem bk0_size (bits cbits bh bc bf : Nat) : (bk0 bits cbits bh bc bf).size = 42 := by simp [bk0]
set_option maxRecDepth 100000 in
theorem builtB (bits cbits bh bc bf : Nat) : Tryd.prog.built 56 [(0, .int .i64 bits), (1, .int .i64 cbits), (4, .agg #[.map (some bh), .int .i64 0]), (5, .agg #[.map (some bc), .int .i64 0]), (6, .agg #[.map (some bf), .int .i64 0])] = some (bk0 bits cbits bh bc bf) := by kernel_rfl
theorem infoBk : (Tryd.prog.info? 56).map (·.size) = some 42 := by kernel_rfl
theorem bk0_set (bits cbits bh bc bf : Nat) (s : List Nat) (hs : s.length = 32) (i : Nat) (hi : i < 42) : ((bk0 bits cbits bh bc bf).toList.take 2 ++ (bv s ++ (bk0 bits cbits bh bc bf).toList.drop (2 + (bv s).length))).toArray[i]? = some (bkc bits cbits (gd s) bh 0 bc 0 bf 0 0 i) := by
  have e0 : (bk0 bits cbits bh bc bf).toList = ([.int .i64 bits, .int .i64 cbits] ++ List.replicate 32 (.int .u8 0)) ++ [.int .i32 0, .int .u32 0, .map (some bh), .int .i64 0, .map (some bc), .int .i64 0, .map (some bf), .int .i64 0] := by simp [bk0]
  have e1 : (bk0 bits cbits bh bc bf).toList.take 2 = [.int .i64 bits, .int .i64 cbits] := by
    rw [e0, List.append_assoc]
    exact List.take_left' rfl
  have e2 : (bk0 bits cbits bh bc bf).toList.drop (2 + (bv s).length) = [.int .i32 0, .int .u32 0, .map (some bh), .int .i64 0, .map (some bc), .int .i64 0, .map (some bf), .int .i64 0] := by
    rw [bv_len, hs, e0]
    exact List.drop_left' (by simp)
  rw [e1, e2, List.getElem?_toArray]
  by_cases h0 : i < 2
  · match i, h0 with
    | 0, _ => rfl
    | 1, _ => rfl
  · rw [List.getElem?_append_right (by simp; omega)]
    by_cases h1 : i < 34
    · rw [List.getElem?_append_left (by rw [bv_len, hs]; simp; omega)]
      have : i - [Value.int .i64 bits, Value.int .i64 cbits].length = i - 2 := rfl
      rw [this, bv_at (by omega)]
      unfold bkc
      rw [if_neg (by omega), if_neg (by omega), if_pos h1]
    · rw [List.getElem?_append_right (by rw [bv_len, hs]; simp; omega), bv_len, hs]
      have : i - [Value.int .i64 bits, Value.int .i64 cbits].length - 32 = i - 34 := by simp; omega
      rw [this]
      obtain ⟨j, rfl⟩ : ∃ j, i = 34 + j := ⟨i - 34, by omega⟩
      rw [Nat.add_sub_cancel_left]
      have hj : j < 8 := by omega
      clear hi this
      match j, hj with
      | 0, _ => rfl
      | 1, _ => rfl
      | 2, _ => rfl
      | 3, _ => rfl
      | 4, _ => rfl
      | 5, _ => rfl
      | 6, _ => rfl
      | 7, _ => rfl

end Go.Proofs.YtadcbhjmbgenbaaDoor
