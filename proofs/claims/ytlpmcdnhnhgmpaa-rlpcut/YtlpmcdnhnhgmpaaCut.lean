/-
  RlpCut: the law.
-/
import Derived.Test.YtlpmcdnhnhgmpaaRnd
namespace Go.Proofs.Ytlpmcdnhnhgmpaa
open Go.RowKit

theorem rest_eq (n m : Int) (hm : 0 < m) : (n.tmod m + m).tmod m = n % m := by
  have h1 := Int.tmod_add_mul_tdiv n m
  have h2 : -m < n.tmod m := Int.lt_tmod_of_pos n hm
  have h3 : n.tmod m < m := Int.tmod_lt_of_pos n hm
  rw [Int.tmod_eq_emod_of_nonneg (by omega), Int.add_emod_right]
  have e : n = n.tmod m + m * n.tdiv m := by omega
  conv => rhs; rw [e]
  rw [Int.add_mul_emod_self_left]
/-- a form that is cut -/
theorem dec_cut {x : It} {k : Nat} (hm : may x = true) (hd : dp x ≤ 80) (hl : (form x).length ≤ 1048576) (hk : k < (form x).length) : dec ((form x).take k) = .bad 0 50 := by
  have hlen : ((form x).take k).length = k := by simp; omega
  unfold dec
  rw [hlen, if_neg (by omega), rd_cut x k hm hd hl hk]
/-- a form with bytes behind it -/
theorem dec_more {x : It} {t : List Nat} (hm : may x = true) (hd : dp x ≤ 80) (hl : (form x).length + t.length ≤ 1048576) (ht : 0 < t.length) : dec (form x ++ t) = .bad (form x).length 51 := by
  have hlen : (form x ++ t).length = (form x).length + t.length := List.length_append
  have hat : At (form x ++ t) 0 (form x) := fun i hi => by rw [Nat.zero_add, gd_app_l hi]
  unfold dec
  rw [if_neg (by omega), rd_form x (form x ++ t) 80 0 _ hm hd (by omega) hat (by omega) (Nat.le_refl _)]
  dsimp only
  rw [if_pos (by omega), Nat.zero_add]
theorem split_more {x : It} {t : List Nat} (hm : may x = true) (hd : dp x ≤ 80) (hl : (form x).length + t.length ≤ 1048576) (ht : 0 < t.length) : spE (form x ++ t) = 0 ∧ sp1 (form x ++ t) = form x ∧ sp2 (form x ++ t) = t := by
  have h := dec_more hm hd hl ht
  have e1 : spE (form x ++ t) = 0 := by unfold spE; rw [h]; rfl
  have e2 : spEnd (form x ++ t) = (form x).length := by unfold spEnd; rw [h]
  refine ⟨e1, ?_, ?_⟩
  · unfold sp1; rw [if_pos e1, e2, List.take_left']; rfl
  · unfold sp2; rw [if_pos e1, e2, List.drop_left']; rfl
end Go.Proofs.Ytlpmcdnhnhgmpaa
