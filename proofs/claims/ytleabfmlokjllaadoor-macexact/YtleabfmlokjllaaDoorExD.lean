/-
  MacExact: a step of whatever kind, once all three stand.
-/
import Derived.Test.YtleabfmlokjllaaDoorExC0
import Derived.Test.YtleabfmlokjllaaDoorExC1
import Derived.Test.YtleabfmlokjllaaDoorExC2
import Derived.Test.YtleabfmlokjllaaDoorExC3
import Derived.Test.YtleabfmlokjllaaDoorExC4
import Derived.Test.YtleabfmlokjllaaDoorExC5
namespace Go.Proofs.YtleabfmlokjllaaDoor
open Go.RowKit

theorem plays_any (B0 : Nat) (w : World) (T L : Nat) (K : Nat → Ks) (h : Tb B0 w T 3 L K) (kind : Int) (which : Int) (a : Option Addr) (bb bo n cc : Nat) (Z : Nat → Nat) (hv : View w a bb bo (min n 400) (fun i => (Z i : Int))) (hZ : ∀ i, Z i < 256) (hnil : a = none → cc = 0) (hcc : n ≤ cc)
    (hfar : 0 < n → bb ≠ T ∧ ∀ j, j < 3 → bb ≠ (K j).p) (hG : Gr w) (g2 : 1 < B0) (hL : L ≤ 100000) :
    Calls Tryd.prog 15 #[.pointer (some ⟨T, 0, none⟩), .agg #[.int .i64 kind, .int .i64 which, .slice a n cc]] w fun e w' => e = .returned (.bool true) ∧ ∃ K', Tb B0 w' T 3 (L + 400) K' ∧ Below B0 w w' := by
  obtain ⟨wh, hwh⟩ : ∃ wh : Nat, which % 3 = (wh : Int) := ⟨(which % 3).toNat, by omega⟩
  have mx : max 3 (wh + 1) = 3 := by omega
  by_cases n1 : kind = 1
  · subst n1
    have := plays_k1 B0 w T 3 L K h which wh hwh a bb bo n cc Z hv hZ hnil hcc hfar hG (by omega) (by omega)
    rw [mx] at this
    exact this
  by_cases n2 : kind = 2
  · subst n2
    have := plays_k2 B0 w T 3 L K h which wh hwh a bb bo n cc Z hv hZ hnil hcc hfar hG g2 hL rfl
    rw [mx] at this
    exact this
  by_cases n3 : kind = 3
  · subst n3
    have := plays_k3 B0 w T 3 L K h which wh hwh a bb bo n cc Z hv hZ hnil hcc hfar hG hL rfl
    rw [mx] at this
    exact this
  by_cases n4 : kind = 4
  · subst n4
    have := plays_k4 B0 w T 3 L K h which wh hwh a bb bo n cc Z hv hZ hnil hcc hfar hG rfl
    rw [mx] at this
    exact this
  by_cases n5 : kind = 5
  · subst n5
    have := plays_k5 B0 w T 3 L K h which wh hwh a bb bo n cc Z hv hZ hnil hcc hfar hG hL rfl
    rw [mx] at this
    exact this
  have := plays_k0 B0 w T 3 L K h kind which wh hwh a bb bo n cc Z hv hZ hnil hcc hfar hG rfl n1 n2 n3 n4 n5
  rw [mx] at this
  exact this
end Go.Proofs.YtleabfmlokjllaaDoor
