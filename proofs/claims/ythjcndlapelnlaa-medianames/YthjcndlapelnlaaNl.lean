/-
  A nil device: Up, Choose, Down, Accesses, Media; registerMayBe, and blobsMayBe where there are none.
-/
import Derived.Test.YthjcndlapelnlaaGe
import Derived.Test.YthjcndlapelnlaaLm
namespace Go.Proofs.Ythjcndlapelnlaa
open Go.RowKit

set_option maxRecDepth 100000 in
set_option maxHeartbeats 800000 in
theorem up_nil (w : World) :
    Calls Try.prog 6 #[.pointer none] w fun e w' => ∃ v, e = .returned v ∧ w' = w := by
  go_enter Try.func6, Try.ntmps6
  go_wp2_with fail
  exact bodyPost_end (results_none rfl _ _ _) rfl ⟨_, rfl, rfl⟩
set_option maxRecDepth 100000 in
set_option maxHeartbeats 800000 in
theorem choose_nil (w : World) (c : Value) :
    Calls Try.prog 17 #[.pointer none, c] w fun e w' => e = .returned (.int .i64 1) ∧ w' = w := by
  go_enter Try.func17, Try.ntmps17
  go_wp2_with fail
  go_ret
  exact ⟨rfl, rfl⟩
set_option maxRecDepth 100000 in
set_option maxHeartbeats 800000 in
theorem down_nil (w : World) :
    Calls Try.prog 18 #[.pointer none] w fun e w' => e = .returned (.bool false) ∧ w' = w := by
  go_enter Try.func18, Try.ntmps18
  go_wp2_with fail
  go_ret
  exact ⟨rfl, rfl⟩
set_option maxRecDepth 100000 in
set_option maxHeartbeats 800000 in
theorem accesses_nil (w : World) :
    Calls Try.prog 19 #[.pointer none] w fun e w' => e = .returned nilS ∧ w' = w := by
  go_enter Try.func19, Try.ntmps19
  go_wp2_with fail
  go_ret
  exact ⟨rfl, rfl⟩

/-! ### Media of a nil device: nothing -/
theorem zero54 : (Try.prog.info? 54).map (fun i => (i.zero, i.size)) = some (some (.agg (mdc 0 0 nilS nilS 0 z32).toArray), 37) := by kernel_rfl
theorem zv54 (w : World) : (zeroValue 54).run Try.prog w = .ok (.agg (mdc 0 0 nilS nilS 0 z32).toArray) w := zero_of_info zero54 w
theorem built54_0 : Try.prog.built 54 [] = some (mdc 0 0 nilS nilS 0 z32).toArray := by kernel_rfl
theorem mdc_one {s r : Int} {b l : Value} {c : Int} {tag : List Nat} (hb : b.oneCell' = true) (hl : l.oneCell' = true) : (mdc s r b l c tag).toArray.all (·.oneCell') = true := by
  refine all_oneCell_toArray (fun x hx => ?_)
  unfold mdc rgc bv at hx
  simp only [List.mem_cons, List.mem_map] at hx
  rcases hx with rfl | rfl | rfl | rfl | rfl | ⟨y, _, rfl⟩
  · rfl
  · rfl
  · exact hb
  · exact hl
  · rfl
  · rfl
theorem i54' {s r : Int} {b l : Value} {c : Int} {tag : List Nat} (h : tag.length = 32) : (Try.prog.info? 54).map (·.size) = some (mdc s r b l c tag).length := by rw [mdc_len h]; exact i54
set_option maxRecDepth 100000 in
set_option maxHeartbeats 1600000 in
theorem media_nil (w : World) :
    Calls Try.prog 21 #[.pointer none] w fun e w' => e = .returned (.agg (mdc 0 0 nilS nilS 0 z32).toArray) ∧ Below w.heap.size w w' := by
  have hz := zv54
  have g0 : (w.alloc (.cells (mdc 0 0 nilS nilS 0 z32).toArray 54)).heap[w.heap.size]? = some (.cells (mdc 0 0 nilS nilS 0 z32).toArray 54 (0, 0)) := heap_alloc_new w _
  have bd := built54_0
  have o1 : (mdc 0 0 nilS nilS 0 z32).toArray.all (·.oneCell') = true := mdc_one rfl rfl
  have HB : Hid (Below w.heap.size w (w.alloc (.cells (mdc 0 0 nilS nilS 0 z32).toArray 54))) := (Below.refl w.heap.size w).alloc (Nat.le_refl _) _
  have HI : Hid ((Try.prog.info? 54).map (·.size) = some (mdc 0 0 nilS nilS 0 z32).length) := i54' z32_len
  go_enter Try.func21, Try.ntmps21
  go_wp2_with (first
    | refine wpList_bdL (by kernel_rfl) _ _ (by rfl) _ bd ?_
    | refine wpList_stB (by kernel_rfl) _ _ _ (by rfl) _ (mdc 0 0 nilS nilS 0 z32) (mdc 0 0 nilS nilS 0 z32) HI.out rfl o1 g0 (by rfl) (by rfl) ?_)
  have hr := setRow_heap' (cs' := (mdc 0 0 nilS nilS 0 z32).toArray) g0
  exact bodyPost_ret (res1 rfl _ _ w.heap.size _ rfl (run_loadVar_mid _ w.heap.size 0 54 _ _ (rng_row hr) Try.underlying54 rfl HI.out)) rfl ⟨rfl, below_setRow HB.out (by omega) _⟩
end Go.Proofs.Ythjcndlapelnlaa
