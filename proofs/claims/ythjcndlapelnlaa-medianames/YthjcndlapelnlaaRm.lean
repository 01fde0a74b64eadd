/-
  media.registerMayBe; media.blobsMayBe where there are no blobs.
-/
import Derived.Test.YthjcndlapelnlaaHq
import Derived.Test.YthjcndlapelnlaaNl
namespace Go.Proofs.Ythjcndlapelnlaa
open Go.RowKit

def regB (c : Int) (tag : List Nat) : Bool := if c = 0 then decide (tag = z32) else cntB c
theorem built33_0 : Try.prog.built 33 [] = some (bv z32).toArray := by kernel_rfl
theorem eql33 {k k' : List Nat} (h : IsH k) (h' : IsH k') : ∀ u, (binOp .eql 33 (.agg (bv k).toArray) (.agg (bv k').toArray)).run Try.prog u = .ok (.bool (decide (k = k'))) u := fun u => by
  rw [run_eql_struct, show (bv k).toArray = hA k from rfl, show (bv k').toArray = hA k' from rfl, eqH_any u k k' h h']
  rfl
theorem eql39 {c c' : Int} {k k' : List Nat} (h : IsH k) (h' : IsH k') : ∀ u, (binOp .eql 39 (.agg (rgc c k).toArray) (.agg (rgc c' k').toArray)).run Try.prog u = .ok (.bool (decide (c = c') && decide (k = k'))) u := fun u => by
  rw [run_eql_struct, eqR_any u c c' k k' h h']
  rfl
set_option maxRecDepth 100000 in
set_option maxHeartbeats 1600000 in
theorem register_any (w : World) (c : Int) (tag : List Nat) (h : IsH tag) :
    Calls Try.prog 35 #[.agg (rgc c tag).toArray] w fun e w' => e = .returned (.bool (regB c tag)) ∧ Below w.heap.size w w' := by
  have hr := rng_new w (rgc c tag) 39
  have c0 : (w.alloc (.cells (rgc c tag).toArray 39)).cell? ⟨w.heap.size, 0, none⟩ = some (.int .i64 c) := (rng_head hr).1
  have HT : Hid ((w.alloc (.cells (rgc c tag).toArray 39)).rangeAt w.heap.size 1 (bv tag)) := (rng_head hr).2
  have HI : Hid ((Try.prog.info? 33).map (·.size) = some (bv tag).length) := by rw [bv_len, h.1]; exact i33
  have je := eql33 h isH_z32
  have bd := built33_0
  obtain ⟨L, hL⟩ : ∃ L, L = (rgc c tag).toArray := ⟨_, rfl⟩
  rw [← hL] at c0 HT ⊢
  have HB : Hid (Below w.heap.size w (w.alloc (.cells L 39))) := (Below.refl _ _).alloc (Nat.le_refl _) _
  clear hr hL
  by_cases hc : c = 0
  · have HE : Hid (regB c tag = decide (tag = z32)) := if_pos hc
    go_enter Try.func35, Try.ntmps35
    go_wp2_with (first
      | refine wpList_load_mid_g (by kernel_rfl) 33 _ (by rfl) w.heap.size 1 (by rfl) (bv tag) _ HT.out Try.underlying33 rfl HI.out ?_
      | refine wpList_bdL (by kernel_rfl) _ _ (by rfl) _ bd ?_)
    go_ret
    exact ⟨by rw [HE.out]; rfl, HB.out⟩
  · have HE : Hid (regB c tag = cntB c) := if_neg hc
    go_enter Try.func35, Try.ntmps35
    go_wp2_with (go_at_call 47; refine (count_any _ c).mono ?_; rintro e w' ⟨rfl, rfl⟩)
    go_ret
    exact ⟨by rw [HE.out]; rfl, HB.out⟩
set_option maxRecDepth 100000 in
set_option maxHeartbeats 1600000 in
theorem blobs_none (w : World) (sl rm : Int) (lg : Value) (c : Int) (tag : List Nat) (h : 1 ≤ sl) :
    Calls Try.prog 34 #[.agg (mdc sl rm nilS lg c tag).toArray] w fun e w' => e = .returned (.bool true) ∧ Below w.heap.size w w' := by
  have hr := rng_new w (mdc sl rm nilS lg c tag) 54
  have c0 : (w.alloc (.cells (mdc sl rm nilS lg c tag).toArray 54)).cell? ⟨w.heap.size, 0, none⟩ = some (.int .i64 sl) := hr 0 _ rfl
  have c2 : (w.alloc (.cells (mdc sl rm nilS lg c tag).toArray 54)).cell? ⟨w.heap.size, 2, none⟩ = some (.slice none 0 0) := hr 2 _ rfl
  obtain ⟨L, hL⟩ : ∃ L, L = (mdc sl rm nilS lg c tag).toArray := ⟨_, rfl⟩
  rw [← hL] at c0 c2 ⊢
  have HB : Hid (Below w.heap.size w (w.alloc (.cells L 54))) := (Below.refl _ _).alloc (Nat.le_refl _) _
  have hs : (0 : Int) < sl := by omega
  clear hr hL
  go_enter Try.func34, Try.ntmps34
  go_wp2_with fail
  refine wp_loop_once ?_
  go_wp2_with fail
  go_ret
  exact ⟨rfl, HB.out⟩
end Go.Proofs.Ythjcndlapelnlaa
