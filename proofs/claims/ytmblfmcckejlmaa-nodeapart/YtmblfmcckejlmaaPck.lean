/-
  path.Pack.
-/
import Derived.Test.YtmblfmcckejlmaaPkE
import Derived.Test.YtmblfmcckejlmaaPkO
namespace Go.Proofs.Ytmblfmcckejlmaa
open Go.RowKit

set_option maxRecDepth 100000 in
set_option maxHeartbeats 400000 in
theorem pack_no (w : World) (a : Option Addr) (b off c : Nat) (s : List Nat) (leaf : Bool) (hv : Vw w a b off s) (hp : ¬ IsP s) :
    Calls Try.prog 49 #[.slice a s.length c, .bool leaf] w fun e w' => e = .returned (.tuple #[.slice none 0 0, .int .i64 60]) ∧ w' = w := by
  have K := isPath_any w a b off c s hv
  rw [decide_eq_false hp] at K
  have HK : Hid (Calls Try.prog 72 #[.slice a s.length c] w fun e w' => e = .returned (.bool false) ∧ w' = w) := K
  have hn := hv.len
  clear K hv hp
  generalize s.length = n at *
  go_enter Try.func49, Try.ntmps49
  go_wp2_with fail
  refine HK.out.mono ?_
  rintro e w1 ⟨rfl, rfl⟩
  go_wp2_with fail
  go_ret2
  exact ⟨rfl, rfl⟩
/-- P6.2 -/
theorem pack_any (w : World) (a : Option Addr) (b off c : Nat) (s : List Nat) (leaf : Bool) (hv : Vw w a b off s) (hc : s.length ≤ c) :
    Calls Try.prog 49 #[.slice a s.length c, .bool leaf] w fun e w' => ∃ v, e = .returned (.tuple #[v, .int .i64 ((pkE s : Nat) : Int)]) ∧ Ans w w' v (pkR leaf s) := by
  by_cases hp : IsP s
  · have e1 : pkE s = 0 := if_pos hp
    have e2 : pkR leaf s = pkL leaf s := if_pos hp
    rw [e1, e2]
    by_cases ho : s.length % 2 = 0
    · cases leaf
      · exact pack_0f w a b off c s hv hp ho
      · exact pack_0t w a b off c s hv hp ho
    · have ho1 : s.length % 2 = 1 := by omega
      cases leaf
      · exact pack_1f w a b off c s hv hc hp ho1
      · exact pack_1t w a b off c s hv hc hp ho1
  · have e1 : pkE s = 60 := if_neg hp
    have e2 : pkR leaf s = [] := if_neg hp
    rw [e1, e2]
    refine (pack_no w a b off c s leaf hv hp).mono ?_
    rintro e w' ⟨rfl, rfl⟩
    exact ⟨_, rfl, ans_nil (Below.refl _ _)⟩
end Go.Proofs.Ytmblfmcckejlmaa
