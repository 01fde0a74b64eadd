/-
  The first of a row as values; a list of bytes as a text.
-/
import Derived.Test.YtleabfmlokjllaaDoorSm
import Derived.Deep.RegionHeld3
import Derived.Deep.AppendLies
import Derived.Laws.AppendOwnNone
import Derived.Deep.DeepHandedRow
import Derived.ProofKit
namespace Go.Proofs.YtleabfmlokjllaaDoor
open Go.RowKit

/-- the first j of a row as values -/
def vals (Y : Nat → Int) (j : Nat) : List Value := (List.range j).map (fun i => Value.int .u8 (Y i))
theorem vals_length (Y : Nat → Int) (j : Nat) : (vals Y j).length = j := by simp [vals]
theorem vals_succ (Y : Nat → Int) (j : Nat) : vals Y j ++ [.int .u8 (Y j)] = vals Y (j + 1) := by
  unfold vals
  rw [List.range_succ]
  simp
theorem vals_two (Y : Nat → Int) (j : Nat) : vals Y j ++ [.int .u8 (Y j), .int .u8 (Y (j + 1))] = vals Y (j + 2) := by
  rw [show j + 2 = (j + 1) + 1 by omega, ← vals_succ Y (j + 1), ← vals_succ Y j]
  simp
/-- what a value that owns a row of bytes is good for -/
theorem view_own {w' : World} {B : Nat} {v : Value} {n : Nat} {Y : Nat → Int} (h : w'.ownsRow B 5 1 v n (vals Y n)) (hb : ∀ i, i < n → 0 ≤ Y i ∧ Y i ≤ 255) (hn : n ≤ 281474976710656) :
    ∃ a g c, v = .slice a n c ∧ View w' a g 0 n Y ∧ n ≤ c ∧ (a ≠ none → B ≤ g ∧ a = some ⟨g, 0, none⟩) := by
  rcases h.2 with ⟨rfl, h0⟩ | ⟨g, cap, cur, rfl, hlt, hcs⟩
  · subst h0
    exact ⟨none, 0, 0, rfl, ⟨fun h => absurd h (by omega), fun i h => absurd h (by omega), fun i h => absurd h (by omega), by omega⟩, by omega, fun h => absurd rfl h⟩
  · refine ⟨some ⟨g, 0, none⟩, g, cap, rfl, ⟨fun _ => rfl, fun i hi => ?_, hb, hn⟩, hcs.2.1, fun _ => ⟨hlt, rfl⟩⟩
    rw [Nat.zero_add, h.cellAt i (by omega)]
    simp [vals, hi]

/-- the text of bytes -/
def str (n : Nat) (Z : Nat → Int) : ByteArray := strOfNums ((List.range n).map Z)
theorem convert_view {w : World} {a : Option Addr} {b off n : Nat} {Z : Nat → Int} (h : View w a b off n Z) (c : Nat) :
    (convert 22 9 (.slice a n c)).run Tryd.prog w = .ok (.string (str n Z)) w := by
  by_cases hn : n = 0
  · subst hn
    rw [run_convert_bytes_string w 22 9 5 _ 0 c Tryd.underlying22 Tryd.underlying5 Tryd.underlying9]
    cases a with
    | none => simp [Conv.bytesToString, str, strOfNums]; rfl
    | some p =>
      rw [run_bytesToString w p 0 c [] (by simpa using run_loadCells_list (P := Tryd.prog) w p [] (fun j v hj => by simp at hj))]
      simp [str, strOfNums]; rfl
  · obtain rfl := h.at_ (by omega)
    exact run_convert_bytes_arg (P := Tryd.prog) w 22 5 Tryd.underlying22 Tryd.underlying5 b off n c ((List.range n).map Z) (by simp) (fun i hi => by rw [h.cell i hi]; simp [hi]) 9 Tryd.underlying9
end Go.Proofs.YtleabfmlokjllaaDoor
