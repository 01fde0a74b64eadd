import Derived.Test.YtdigimobicfabaaGreatDoorKazz
import Derived.Test.YtdigimobicfabaaGreatDoorKb1zz
import Derived.Test.YtdigimobicfabaaGreatDoorKb3zz
import Derived.Test.YtdigimobicfabaaGreatDoorKb5zz
import Derived.Test.YtdigimobicfabaaGreatDoorKb7zz
import Derived.Test.YtdigimobicfabaaGreatDoorKb9zz
import Derived.Test.YtdigimobicfabaaGreatDoorKb11zz
/-
  SealNames: the whole.
-/
namespace Go.Proofs.YtdigimobicfabaaGreatDoor
open Go Go.Ev Go.RowKit
theorem hk3_ok {N : Nat} : HookOk N Tryz.prog hk3 := hooksA_ok
theorem hk2_ok {N : Nat} : HookOk N Tryz.prog hk2 := by
  refine ckHook_ok Dg.mixed hooksA_ok fun c hc => ?_
  rcases List.mem_cons.1 hc with rfl | hc
  · exact ⟨hk3, 400, hk3_ok, ok3⟩
  rcases List.mem_cons.1 hc with rfl | hc
  · exact ⟨hk3, 400, hk3_ok, ok4⟩
  rcases List.mem_cons.1 hc with rfl | hc
  · exact ⟨hk3, 400, hk3_ok, ok6⟩
  rcases List.mem_cons.1 hc with rfl | hc
  · exact ⟨hk3, 400, hk3_ok, ok8⟩
  rcases List.mem_cons.1 hc with rfl | hc
  · exact ⟨hk3, 400, hk3_ok, ok9⟩
  cases hc
theorem hk1_ok {N : Nat} : HookOk N Tryz.prog hk1 := by
  refine ckHook_ok Dg.mixed hooksA_ok fun c hc => ?_
  rcases List.mem_cons.1 hc with rfl | hc
  · exact ⟨hk2, 400, hk2_ok, ok0⟩
  rcases List.mem_cons.1 hc with rfl | hc
  · exact ⟨hk2, 400, hk2_ok, ok1⟩
  rcases List.mem_cons.1 hc with rfl | hc
  · exact ⟨hk2, 400, hk2_ok, ok2⟩
  rcases List.mem_cons.1 hc with rfl | hc
  · exact ⟨hk3, 400, hk3_ok, ok3⟩
  rcases List.mem_cons.1 hc with rfl | hc
  · exact ⟨hk3, 400, hk3_ok, ok4⟩
  rcases List.mem_cons.1 hc with rfl | hc
  · exact ⟨hk2, 400, hk2_ok, ok5⟩
  rcases List.mem_cons.1 hc with rfl | hc
  · exact ⟨hk3, 400, hk3_ok, ok6⟩
  rcases List.mem_cons.1 hc with rfl | hc
  · exact ⟨hk2, 400, hk2_ok, ok7⟩
  rcases List.mem_cons.1 hc with rfl | hc
  · exact ⟨hk3, 400, hk3_ok, ok8⟩
  rcases List.mem_cons.1 hc with rfl | hc
  · exact ⟨hk3, 400, hk3_ok, ok9⟩
  rcases List.mem_cons.1 hc with rfl | hc
  · exact ⟨hk2, 400, hk2_ok, ok10⟩
  cases hc
theorem hk0_ok {N : Nat} : HookOk N Tryz.prog hk0 := by
  refine ckHook_ok Dg.mixed hooksA_ok fun c hc => ?_
  rcases List.mem_cons.1 hc with rfl | hc
  · exact ⟨hk2, 400, hk2_ok, ok0⟩
  rcases List.mem_cons.1 hc with rfl | hc
  · exact ⟨hk2, 400, hk2_ok, ok1⟩
  rcases List.mem_cons.1 hc with rfl | hc
  · exact ⟨hk2, 400, hk2_ok, ok2⟩
  rcases List.mem_cons.1 hc with rfl | hc
  · exact ⟨hk3, 400, hk3_ok, ok3⟩
  rcases List.mem_cons.1 hc with rfl | hc
  · exact ⟨hk3, 400, hk3_ok, ok4⟩
  rcases List.mem_cons.1 hc with rfl | hc
  · exact ⟨hk2, 400, hk2_ok, ok5⟩
  rcases List.mem_cons.1 hc with rfl | hc
  · exact ⟨hk3, 400, hk3_ok, ok6⟩
  rcases List.mem_cons.1 hc with rfl | hc
  · exact ⟨hk2, 400, hk2_ok, ok7⟩
  rcases List.mem_cons.1 hc with rfl | hc
  · exact ⟨hk3, 400, hk3_ok, ok8⟩
  rcases List.mem_cons.1 hc with rfl | hc
  · exact ⟨hk3, 400, hk3_ok, ok9⟩
  rcases List.mem_cons.1 hc with rfl | hc
  · exact ⟨hk2, 400, hk2_ok, ok10⟩
  rcases List.mem_cons.1 hc with rfl | hc
  · exact ⟨hk1, 400, hk1_ok, ok11⟩
  cases hc
set_option maxRecDepth 1000000 in
theorem whole : isT (run Tryz.prog hk0 400 (.call 3 []) (.mk (tables tabsA) 1000 .nil)) = true := by kernel_rfl
theorem law_any (W : World) (ht : ∀ p ∈ tabsA, p.1 < 1000 ∧ ∃ c t fr, W.heap[p.1]? = some (.cells c t fr) ∧ ∀ (i : Nat) (v : Value), p.2[i]? = some v → c[i]? = some v ∧ (plain 1 v = true ∨ hnd v = true)) :
    Calls Tryz.prog 3 #[] W fun e W' => e = .returned (.bool true) ∧ Below W.heap.size W W' :=
  closedH Dg.mixed hk0_ok ht whole
end Go.Proofs.YtdigimobicfabaaGreatDoor
