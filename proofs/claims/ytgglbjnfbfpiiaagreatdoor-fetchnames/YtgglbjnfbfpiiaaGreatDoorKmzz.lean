import Derived.Test.YtgglbjnfbfpiiaaGreatDoorKazz
/-
  FetchNames: the whole.
-/
namespace Go.Proofs.YtgglbjnfbfpiiaaGreatDoor
open Go Go.Ev Go.RowKit
theorem hk0_ok {N : Nat} : HookOk N Tryz.prog hk0 := Dg.hooks_ok
set_option maxRecDepth 1000000 in
theorem whole : isT (run Tryz.prog hk0 400 (.call 3 []) (.mk (tables Dg.tabs) 1000 .nil)) = true := by kernel_rfl
theorem law_any (W : World) (ht : ∀ p ∈ Dg.tabs, p.1 < 1000 ∧ ∃ c t fr, W.heap[p.1]? = some (.cells c t fr) ∧ ∀ (i : Nat) (v : Value), p.2[i]? = some v → c[i]? = some v ∧ plain 1 v = true) :
    Calls Tryz.prog 3 #[] W fun e W' => e = .returned (.bool true) ∧ Below W.heap.size W W' :=
  closed Dg.mixed hk0_ok ht whole
end Go.Proofs.YtgglbjnfbfpiiaaGreatDoor
