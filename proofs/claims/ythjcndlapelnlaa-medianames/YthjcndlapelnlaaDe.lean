/-
  media.deeds: what each choice does.
-/
import Derived.Test.YthjcndlapelnlaaNl
namespace Go.Proofs.Ythjcndlapelnlaa
open Go.RowKit

abbrev fv (n : Nat) : Value := .func (.func n) #[] #[]
theorem built103 (a b c d : Nat) : Try.prog.built 103 [(0, fv a), (1, fv b), (2, fv c), (3, fv d)] = some #[fv a, fv b, fv c, fv d] := by kernel_rfl
def deedL : List Value := [fv 49, fv 49, fv 49, fv 49, fv 50, fv 51, fv 49, fv 49, fv 52, fv 53, fv 53, fv 49, fv 54, fv 55, fv 56, fv 49, fv 57, fv 57, fv 57, fv 49, fv 58, fv 59, fv 58, fv 49, fv 58, fv 58, fv 58, fv 58, fv 60, fv 60, fv 60, fv 60]
theorem built104 : Try.prog.built 104 [(0, .agg #[fv 49, fv 49, fv 49, fv 49]), (1, .agg #[fv 50, fv 51, fv 49, fv 49]), (2, .agg #[fv 52, fv 53, fv 53, fv 49]), (3, .agg #[fv 54, fv 55, fv 56, fv 49]), (4, .agg #[fv 57, fv 57, fv 57, fv 49]), (5, .agg #[fv 58, fv 59, fv 58, fv 49]), (6, .agg #[fv 58, fv 58, fv 58, fv 58]), (7, .agg #[fv 60, fv 60, fv 60, fv 60])] = some deedL.toArray := by kernel_rfl
theorem zero104 : (Try.prog.info? 104).map (fun i => (i.zero, i.size)) = some (some (.agg (List.replicate 32 Value.nilFunc).toArray), 32) := by kernel_rfl
theorem deed_one : deedL.toArray.all (·.oneCell') = true := by kernel_rfl
set_option maxRecDepth 100000 in
set_option maxHeartbeats 1600000 in
theorem deeds_any (w : World) :
    Calls Try.prog 41 #[] w fun e w' => e = .returned (.agg deedL.toArray) ∧ Below w.heap.size w w' := by
  obtain ⟨Z, hZ⟩ : ∃ Z, Z = List.replicate 32 Value.nilFunc := ⟨_, rfl⟩
  have hz : ∀ w, (zeroValue 104).run Try.prog w = .ok (.agg Z.toArray) w := by rw [hZ]; exact zero_of_info zero104
  have HL : Hid ((Try.prog.info? 104).map (·.size) = some deedL.length ∧ deedL.length = Z.length) := ⟨by kernel_rfl, by rw [hZ]; rfl⟩
  have HB : Hid (Below w.heap.size w (w.alloc (.cells deedL.toArray 104))) := (Below.refl w.heap.size w).alloc (Nat.le_refl _) _
  clear hZ
  go_enter Try.func41, Try.ntmps41
  refine wp_seq (wp_region_lit ?_)
  refine wpList_g (by kernel_rfl) ?_
  simp [Oper.wp, Oper.upon, execOp, hz, go_sem]
  refine wpList_nil ?_
  refine wp_seq (wp_region_lit ?_)
  refine wpList_bdL (by kernel_rfl) 103 [(0, .func 49), (1, .func 49), (2, .func 49), (3, .func 49)] (by rfl) #[fv 49, fv 49, fv 49, fv 49] (by exact built103 49 49 49 49) ?_
  refine wpList_bdL (by kernel_rfl) 103 [(0, .func 50), (1, .func 51), (2, .func 49), (3, .func 49)] (by rfl) #[fv 50, fv 51, fv 49, fv 49] (by exact built103 50 51 49 49) ?_
  refine wpList_bdL (by kernel_rfl) 103 [(0, .func 52), (1, .func 53), (2, .func 53), (3, .func 49)] (by rfl) #[fv 52, fv 53, fv 53, fv 49] (by exact built103 52 53 53 49) ?_
  refine wpList_bdL (by kernel_rfl) 103 [(0, .func 54), (1, .func 55), (2, .func 56), (3, .func 49)] (by rfl) #[fv 54, fv 55, fv 56, fv 49] (by exact built103 54 55 56 49) ?_
  refine wpList_bdL (by kernel_rfl) 103 [(0, .func 57), (1, .func 57), (2, .func 57), (3, .func 49)] (by rfl) #[fv 57, fv 57, fv 57, fv 49] (by exact built103 57 57 57 49) ?_
  refine wpList_bdL (by kernel_rfl) 103 [(0, .func 58), (1, .func 59), (2, .func 58), (3, .func 49)] (by rfl) #[fv 58, fv 59, fv 58, fv 49] (by exact built103 58 59 58 49) ?_
  refine wpList_bdL (by kernel_rfl) 103 [(0, .func 58), (1, .func 58), (2, .func 58), (3, .func 58)] (by rfl) #[fv 58, fv 58, fv 58, fv 58] (by exact built103 58 58 58 58) ?_
  refine wpList_bdL (by kernel_rfl) 103 [(0, .func 60), (1, .func 60), (2, .func 60), (3, .func 60)] (by rfl) #[fv 60, fv 60, fv 60, fv 60] (by exact built103 60 60 60 60) ?_
  simp only [Act.put, List.setIfInBounds_toArray, List.set_cons_zero, List.set_cons_succ]
  refine wpList_bdL (by kernel_rfl) 104 [(0, .tmp 1), (1, .tmp 2), (2, .tmp 3), (3, .tmp 4), (4, .tmp 5), (5, .tmp 6), (6, .tmp 7), (7, .tmp 8)] (by rfl) deedL.toArray (by exact built104) ?_
  refine wpList_stN (by kernel_rfl) 104 _ _ (by rfl) deedL Z HL.out.1 HL.out.2 deed_one (by rfl) (by rfl) ?_
  refine wpList_nil ?_
  refine wp_ret ?_
  exact bodyPost_ret (res1 rfl _ _ w.heap.size _ rfl (run_loadVar_mid _ w.heap.size 0 104 _ _ (rng_new w deedL _) Try.underlying104 rfl HL.out.1)) rfl ⟨rfl, HB.out⟩
end Go.Proofs.Ythjcndlapelnlaa
