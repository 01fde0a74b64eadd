/-
  RlpLimits: the plain facts.
-/
import Derived.Test.YtlpmcdnhnhgmpaaBk
import Derived.Test.YtlpmcdnhnhgmpaaSam
import Derived.Test.YtlpmcdnhnhgmpaaAw
namespace Go.Proofs.Ytlpmcdnhnhgmpaa
open Go.RowKit

def nest : Nat → It
  | 0 => .mk true [] []
  | k + 1 => .mk true [] [nest k]
theorem nest_l (k : Nat) : (nest k).l = true := by cases k <;> rfl
theorem nest_dp (k : Nat) : dp (nest k) = k + 1 := by
  induction k with
  | zero => rfl
  | succ k ih => rw [nest, dp_mk, dpL_cons, dpL_nil, ih]; simp; omega
theorem nest_may (k : Nat) : may (nest k) = true := by
  induction k with
  | zero => rfl
  | succ k ih => rw [nest, may_mk, mayL_cons, mayL_nil, ih]; rfl
theorem nest_form (k : Nat) : form (nest (k + 1)) = hdr 192 (form (nest k)).length ++ form (nest k) := by
  rw [nest, form_mk, forms_cons, forms_nil, List.append_nil]; simp
/-- so many bytes -/
def nl : Nat → Nat
  | 0 => 1
  | k + 1 => if nl k < 56 then nl k + 1 else nl k + 2
theorem nl_le (k : Nat) : nl k ≤ 2 * k + 1 := by
  induction k with
  | zero => decide
  | succ k ih => rw [nl]; split <;> omega
theorem digs_byte {n : Nat} (h0 : 0 < n) (h : n < 256) : digs n = [n] := by
  rw [digs_pos h0, show n / 256 = 0 by omega, digs_zero, show n % 256 = n by omega]; rfl
theorem hdr_long {n : Nat} (h0 : 56 ≤ n) (h : n < 256) : hdr 192 n = [248, n] := by
  unfold hdr
  rw [if_neg (by omega), digs_byte (by omega) h]
  rfl
theorem hdr_short {n : Nat} (h : n < 56) : hdr 192 n = [192 + n] := by unfold hdr; rw [if_pos h]
theorem nest_len : ∀ k, k ≤ 100 → (form (nest k)).length = nl k := by
  intro k
  induction k with
  | zero => intro _; rfl
  | succ k ih =>
    intro hk
    have h := ih (by omega)
    have h2 := nl_le k
    rw [nest_form, List.length_append, h, nl]
    split
    · rename_i q; rw [hdr_short q]; simp; omega
    · rename_i q; rw [hdr_long (by omega) (by omega)]; simp; omega
theorem nl79 : nl 79 = 104 := by kernel_rfl
theorem nl80 : nl 80 = 106 := by kernel_rfl
theorem enc79 : encE (nest 79) = 0 ∧ enc (nest 79) = form (nest 79) := by
  have : encE (nest 79) = 0 := by
    unfold encE
    rw [nest_dp, nest_may, nest_len 79 (by omega), nl79]
    decide
  exact ⟨this, by unfold enc; rw [if_pos this]⟩
theorem enc80 : encE (nest 80) = 53 ∧ enc (nest 80) = [] := by
  have : encE (nest 80) = 53 := by
    unfold encE
    rw [nest_dp]
    rfl
  exact ⟨this, by unfold enc; rw [this]; rfl⟩
theorem dec_form {x : It} (hm : may x = true) (hd : dp x ≤ 80) (hl : (form x).length ≤ 1048576) : dec (form x) = .ok x := by
  unfold dec
  rw [if_neg (by omega), rd_form x (form x) 80 0 (form x).length hm hd hl (At.self _) (by omega) (Nat.le_refl _)]
  dsimp only
  rw [if_neg (by omega)]
theorem dec79 : dec (form (nest 79)) = .ok (nest 79) := dec_form (nest_may _) (by rw [nest_dp]; omega) (by rw [nest_len 79 (by omega), nl79]; omega)
theorem dec80 : dec (form (nest 80)) = .bad 105 53 := by kernel_rfl
theorem decXPE {s : List Nat} {x : It} (h : dec s = .ok x) : decX s = x ∧ decP s = 0 ∧ decE s = 0 := by
  unfold decX decP decE
  rw [h]
  exact ⟨rfl, rfl, rfl⟩
theorem decXPE_bad {s : List Nat} {p e : Nat} (h : dec s = .bad p e) : decX s = .mk false [] [] ∧ decP s = p ∧ decE s = e := by
  unfold decX decP decE
  rw [h]
  exact ⟨rfl, rfl, rfl⟩
/-- a string of zeros -/
theorem enc_zeros {s : List Nat} {n : Nat} (hs : s.length = n) (h1 : 1048570 < n) (h2 : n ≤ 1048576) : (form (.mk false s [])).length = n + 4 ∧ may (.mk false s []) = true ∧ dp (.mk false s []) = 0 := by
  refine ⟨?_, by rw [may_mk]; simp, by rw [dp_mk]; simp⟩
  have ha : alone s = false := by
    unfold alone
    rw [hs, decide_eq_false (by omega)]
    rfl
  have hd : (digs n).length = 3 := by
    have h3 := digs_len_le (n := n) (k := 3) (by omega)
    rw [digs_pos (by omega), digs_pos (n := n / 256) (by omega), digs_pos (n := n / 256 / 256) (by omega), show n / 256 / 256 / 256 = 0 by omega, digs_zero]
    rfl
  rw [form_mk]
  simp only [Bool.false_eq_true, if_false, ha, List.length_append, hs]
  unfold hdr
  rw [if_neg (by omega)]
  simp only [List.length_cons, hd]
  omega
/-- one list more around -/
theorem Og.around {w w' : World} {lo hi g : Nat} {x : It} {vb vi : Value} (h : Og 25 [] w lo hi x vb vi) (hw : ∀ k, lo ≤ k → k < hi → w'.heap[k]? = w.heap[k]?) (hg : w'.heap[g]? = some (.cells #[.bool x.l, vb, vi] 25 (0, 0))) (hlo : lo ≤ g) (hi' : g < w'.heap.size) (hh : hi ≤ w'.heap.size) :
    Og 25 [] w' lo w'.heap.size (.mk true [] [x]) (.slice none 0 0) (.slice (some ⟨g, 0, none⟩) 1 1) := by
  refine .mk [(x.l, vb, vi)] (fun _ => lo) (fun _ => hi) (sg_of_own (b := []) ⟨rfl, Or.inl ⟨rfl, rfl⟩⟩ (by simp) (by simp)) (fun q hq => by cases hq) ⟨rfl, Or.inr ⟨g, 1, _, rfl, hlo, hg, Nat.le_refl _, by unfold maxLen; omega, rfl, rfl⟩⟩ (fun q hq => ?_) rfl (by simp) (fun i hi => Nat.le_refl _) (fun i hi => hh) (fun i y z hy hz => ?_) (fun i y z hy hz => ?_)
  · have : g = q := Option.some.inj hq
    omega
  · match i, hy, hz with
    | 0, hy, hz =>
      simp at hy hz
      subst hy
      subst hz
      rfl
    | i + 1, hy, _ => simp at hy
  · match i, hy, hz with
    | 0, hy, hz =>
      simp at hy hz
      subst hy
      subst hz
      exact h.same hw
    | i + 1, hy, _ => simp at hy
theorem Og.empty (w : World) (lo hi : Nat) (l : Bool) : Og 25 [] w lo hi (.mk l [] []) (.slice none 0 0) (.slice none 0 0) :=
  .mk [] (fun _ => 0) (fun _ => 0) (sg_of_own (b := []) ⟨rfl, Or.inl ⟨rfl, rfl⟩⟩ (by simp) (by simp)) (fun q hq => by cases hq) ⟨rfl, Or.inl ⟨rfl, rfl⟩⟩ (fun q hq => by cases hq) rfl (by simp) (fun i hi => by simp at hi) (fun i hi => by simp at hi) (fun i y z hy => by simp at hy) (fun i y z hy => by simp at hy)
end Go.Proofs.Ytlpmcdnhnhgmpaa
