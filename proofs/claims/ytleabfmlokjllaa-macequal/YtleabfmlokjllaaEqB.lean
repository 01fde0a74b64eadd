/-
  Two hashes compared; the law's byte that is turned.
-/
import Derived.Test.YtleabfmlokjllaaEqA
namespace Go.Proofs.Ytleabfmlokjllaa
open Go.RowKit

theorem mapM_some {α β : Type} (f : α → Option β) (g : α → β) : ∀ l : List α, (∀ x ∈ l, f x = some (g x)) → l.mapM f = some (l.map g)
  | [], _ => rfl
  | x :: l, h => by
    rw [List.mapM_cons, h x (by simp), mapM_some f g l (fun y hy => h y (by simp [hy]))]
    rfl
theorem lits26 (F : Nat → Nat) (hf : ∀ i, F i < 256) : Try.prog.keyLits 2 23 (arrA F).toList = some (((List.range 32).map (fun i => [Lit.int .u8 (F i)])).flatten) := by
  have c26 : Try.prog.cellsOf 23 = 32 := by kernel_rfl
  have c5 : Try.prog.cellsOf 5 = 1 := by kernel_rfl
  have hs := arrA_size F
  unfold Program.keyLits
  rw [Try.underlying23]
  simp only [Array.length_toList, hs, c26, if_true]
  rw [mapM_some _ (fun i => [Lit.int .u8 (F i)]) (List.range 32) ?_]
  · rfl
  · intro i hi
    have hi' : i < 32 := by simpa using hi
    have e : ((arrA F).toList.drop (i * Try.prog.cellsOf 5)).take (Try.prog.cellsOf 5) = [.int .u8 (F i)] := by
      rw [c5, Nat.mul_one]
      have h2 := arrA_cell F i hi'
      rw [Array.getElem?_eq_getElem (by omega)] at h2
      rw [List.drop_eq_getElem_cons (by simp; omega)]
      simp only [List.take_succ_cons, List.take_zero, Array.getElem_toList]
      rw [Option.some.inj h2]
    rw [e]
    unfold Program.keyLits
    rw [Try.underlying5]
    have wf : (Lit.int .u8 (F i)).wf = true := by
      have := hf i
      simp [Lit.wf, IntKind.min, IntKind.max, IntKind.bits, IntKind.signed]
      omega
    simp only [wf, and_self, if_true]
theorem lits_inj {F G : Nat → Nat} : (((List.range 32).map (fun i => [Lit.int .u8 (F i)])).flatten = ((List.range 32).map (fun i => [Lit.int .u8 (G i)])).flatten) ↔ ap F G 32 = 0 := by
  have fl : ∀ H : Nat → Nat, ((List.range 32).map (fun i => [Lit.int .u8 (H i)])).flatten = (List.range 32).map (fun i => Lit.int .u8 (H i)) := fun H => by
    generalize List.range 32 = l
    induction l with
    | nil => rfl
    | cons x l ih => simp only [List.map_cons, List.flatten_cons, ih, List.cons_append, List.nil_append]
  rw [fl, fl, ap_zero]
  constructor
  · intro h i hi
    have e := congrArg (fun l => l[i]?) h
    simp only [List.getElem?_map, List.getElem?_range hi, Option.map_some] at e
    have e2 := Option.some.inj e
    injection e2 with _ e3
    omega
  · intro h
    refine List.map_congr_left (fun i hi => ?_)
    rw [h i (by simpa using hi)]
theorem equalIn_any (w : World) (F G : Nat → Nat) (hF : ∀ i, F i < 256) (hG : ∀ i, G i < 256) : (Op.equalIn 10000 23 (.agg (arrA F)) (.agg (arrA G))).run Try.prog w = .ok (decide (ap F G 32 = 0)) w := by
  have K : Try.prog.keyTypeAt 2 23 = true := by kernel_rfl
  have c26 : Try.prog.cellsOf 23 = 32 := by kernel_rfl
  have fm : ∀ H : Nat → Nat, (Value.agg (arrA H)).formed Try.prog 23 = true := fun H => by
    unfold Value.formed
    rw [Try.underlying23, c26]
    show ((arrA H).size == 32) = true
    rw [arrA_size]
    rfl
  obtain ⟨r, hr, hiff⟩ := run_equalIn_deep 9998 2 23 K w 2 2 (.agg (arrA F)) (.agg (arrA G)) _ _ (fm F) (fm G) (lits26 F hF) (lits26 G hG)
  rw [lits_inj] at hiff
  have e : r = decide (ap F G 32 = 0) := by
    by_cases z : ap F G 32 = 0
    · rw [hiff.2 z]
      simp [z]
    · have : r ≠ true := fun h => z (hiff.1 h)
      simp [z]
      simpa using this
  rw [← e]
  exact hr

/-- byte b with x -/
def turnd (F : Nat → Nat) (b x i : Nat) : Nat := if i = b then F b ^^^ x else F i
theorem turnd_lt {F : Nat → Nat} (h : ∀ i, F i < 256) {x : Nat} (hx : x < 256) (b i : Nat) : turnd F b x i < 256 := by
  unfold turnd
  split
  · exact Nat.xor_lt_two_pow (n := 8) (h b) hx
  · exact h i
theorem turnd_ne {F : Nat → Nat} {b x : Nat} (hb : b < 32) (hx : 0 < x) : ap F (turnd F b x) 32 ≠ 0 ∧ ap (turnd F b x) F 32 ≠ 0 := by
  have e : F b ≠ turnd F b x b := by
    unfold turnd
    rw [if_pos rfl]
    intro h
    have q : F b ^^^ F b = F b ^^^ (F b ^^^ x) := by rw [← h]
    rw [Nat.xor_self, ← Nat.xor_assoc, Nat.xor_self, Nat.zero_xor] at q
    omega
  exact ⟨fun h => e ((ap_zero _ _ _).1 h b hb), fun h => e ((ap_zero _ _ _).1 h b hb).symm⟩
theorem rest_eq (n m : Int) (hm : 0 < m) : (n.tmod m + m).tmod m = n % m := by
  have h1 := Int.tmod_add_mul_tdiv n m
  have h2 : -m < n.tmod m := Int.lt_tmod_of_pos n hm
  have h3 : n.tmod m < m := Int.tmod_lt_of_pos n hm
  rw [Int.tmod_eq_emod_of_nonneg (by omega), Int.add_emod_right]
  have e : n = n.tmod m + m * n.tdiv m := by omega
  conv => rhs; rw [e]
  rw [Int.add_mul_emod_self_left]
end Go.Proofs.Ytleabfmlokjllaa
