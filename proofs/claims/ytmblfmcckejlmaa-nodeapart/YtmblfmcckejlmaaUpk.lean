/-
  path.Unpack.
-/
import Derived.Test.YtmblfmcckejlmaaUpE
import Derived.Test.YtmblfmcckejlmaaUpO
namespace Go.Proofs.Ytmblfmcckejlmaa
open Go.RowKit

set_option maxRecDepth 100000 in
set_option maxHeartbeats 400000 in
theorem unpack_no (w : World) (a : Option Addr) (b off c : Nat) (s : List Nat) (hv : Vw w a b off s) (hp : ¬ IsF s) :
    Calls Try.prog 76 #[.slice a s.length c] w fun e w' => e = .returned (.tuple #[.slice none 0 0, .bool false, .int .i64 60]) ∧ w' = w := by
  have K := isForm_any w a b off c s hv
  rw [decide_eq_false hp] at K
  have HK : Hid (Calls Try.prog 83 #[.slice a s.length c] w fun e w' => e = .returned (.bool false) ∧ w' = w) := K
  have hn := hv.len
  clear K hv hp
  generalize s.length = n at *
  go_enter Try.func76, Try.ntmps76
  go_wp2_with fail
  refine HK.out.mono ?_
  rintro e w1 ⟨rfl, rfl⟩
  go_wp2_with fail
  go_ret3
  exact ⟨rfl, rfl⟩
/-- P6.3 -/
theorem unpack_any (w : World) (a : Option Addr) (b off c : Nat) (s : List Nat) (hv : Vw w a b off s) (hc : s.length ≤ c) :
    Calls Try.prog 76 #[.slice a s.length c] w fun e w' => ∃ v, e = .returned (.tuple #[v, .bool (upI s), .int .i64 ((upE s : Nat) : Int)]) ∧ Ans w w' v (upR s) := by
  by_cases hp : IsF s
  · have e1 : upE s = 0 := if_pos hp
    have e2 : upR s = upL s := if_pos hp
    have e3 : upI s = lf s := if_pos hp
    rw [e1, e2, e3]
    have := od_lt s
    by_cases ho : od s = 0
    · exact unpack_0 w a b off c s hv hc hp ho
    · exact unpack_1 w a b off c s hv hc hp (by omega)
  · have e1 : upE s = 60 := if_neg hp
    have e2 : upR s = [] := if_neg hp
    have e3 : upI s = false := if_neg hp
    rw [e1, e2, e3]
    refine (unpack_no w a b off c s hv hp).mono ?_
    rintro e w' ⟨rfl, rfl⟩
    exact ⟨_, rfl, ans_nil (Below.refl _ _)⟩
end Go.Proofs.Ytmblfmcckejlmaa
