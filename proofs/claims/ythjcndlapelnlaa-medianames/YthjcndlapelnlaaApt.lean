/-
  A row of bytes of its own, by its cells.
-/
import Derived.Test.YthjcndlapelnlaaMem
import Derived.OwnWalk
import Derived.ArgAppend
namespace Go.Proofs.Ythjcndlapelnlaa
open Go.RowKit

/-- a list of bytes in a row of its own, by its cells -/
theorem own_row {w : World} {B g n cap : Nat} {xs : List Value} (h : w.ownsRow B 5 1 (.slice (some ⟨g, 0, none⟩) n cap) n xs) : (∃ f : Nat → Value, w.rowIs g 5 cap f ∧ ∀ i, i < n → xs[i]? = some (f i)) ∧ n ≤ cap ∧ cap ≤ maxLen ∧ B ≤ g := by
  rcases h.2 with ⟨h0, _⟩ | ⟨g', cap', cur, hv, hB, hg, hn, hm, hsz, htk⟩
  · cases h0
  · injection hv with h1 h2 h3
    injection h1 with h1
    injection h1 with h1
    subst h1
    subst h3
    refine ⟨⟨fun i => cur.getD i (.int .u8 0), ⟨cur, hg, by omega, fun i hi => ?_⟩, fun i hi => ?_⟩, hn, hm, hB⟩
    · show cur[i]? = some (cur.getD i (.int .u8 0))
      rw [Array.getD_eq_getD_getElem?, Array.getElem?_eq_getElem (by omega)]
      rfl
    · have c := h.cellAt i (by omega)
      rw [cell_of_row w g i cur 5 (0, 0) hg] at c
      show xs[i]? = some (cur.getD i (.int .u8 0))
      rw [← c, Array.getD_eq_getD_getElem?, Array.getElem?_eq_getElem (by omega)]
      rfl
theorem row_own {w : World} {B g n cap : Nat} {f : Nat → Value} (r : w.rowIs g 5 cap f) (hB : B ≤ g) (hn : n ≤ cap) (hm : cap ≤ maxLen) (xs : List Value) (hl : xs.length = n) (hx : ∀ i, i < n → xs[i]? = some (f i)) : w.ownsRow B 5 1 (.slice (some ⟨g, 0, none⟩) n cap) n xs := by
  obtain ⟨c, hg, hsz, hc⟩ := r
  refine ⟨by omega, Or.inr ⟨g, cap, c, rfl, hB, hg, hn, hm, by omega, ?_⟩⟩
  apply List.ext_getElem?
  intro i
  rw [Nat.mul_one, List.getElem?_take]
  by_cases hi : i < n
  · rw [if_pos hi, hx i hi]
    simpa using hc i (by omega)
  · rw [if_neg hi, List.getElem?_eq_none (by omega)]
/-- the first of them, and what lies behind them -/
theorem str_pre {w : World} {F : Nat → Prop} {g cap : Nat} {s m : List Nat} (h : Str w F (.slice (some ⟨g, 0, none⟩) (s ++ m).length cap) (s ++ m)) : Str w F (.slice (some ⟨g, 0, none⟩) s.length cap) s := by
  obtain ⟨⟨f, r, hf⟩, h1, h2, h3⟩ := own_row h.own
  have hl : (s ++ m).length = s.length + m.length := List.length_append
  have k := h.ok
  refine ⟨row_own r h3 (by omega) h2 (bv s) (bv_len s) (fun i hi => ?_), fun g hg => h.foot g hg, ⟨by have := k.1; omega, fun x hx => k.2 x (by simp [hx])⟩⟩
  have := hf i (by omega)
  rw [bv, List.map_append, List.getElem?_append_left (by simpa using hi)] at this
  exact this
abbrev nilS : Value := .slice none 0 0
abbrev Any : Nat → Prop := fun _ => True
end Go.Proofs.Ythjcndlapelnlaa
