import Derived.Test.YtledfigfokoiiaaOpq
import Derived.Test.YtledfigfokoiiaaRows
/-
  A list of lists opened, with a bound of its bulk.
-/
namespace Go.Proofs.Ytledfigfokoiiaa
open Go.ChangeShapes Go.WideShapes Go.ChangeAt Go.RowKit
theorem bulk_pos {H : Type} (d : DataW H) : 1 ≤ Rows.uptoBulk d := by
  cases d with
  | lit l => cases l <;> simp [Rows.uptoBulk]
  | _ => simp [Rows.uptoBulk]
theorem bulk_len {H : Type} : ∀ l : List (DataW H), l.length ≤ Rows.uptoBulkAll l
  | [] => by simp [Rows.uptoBulkAll]
  | d :: r => by
    have h1 := bulk_pos d
    have h2 := bulk_len r
    simp only [Rows.uptoBulkAll, List.length_cons]
    omega
theorem open_listsU {H : Type} {enc : TypeId × Value → H} {W : World} {base : Nat} {v : Value} {d : DataW H} {p : List MemPlace} (hv : Value.okWide Try.prog W .any base 22 v) (h : DataW.Trod enc Try.prog W 0 (fun _ => true) true 22 v d p) (hk : ∀ n ∈ d.weights Try.prog 22, n ≤ reachBytes) (hb : Rows.uptoBulk d ≤ 1048576) :
    ∃ L : List (List Nat), Lv W v L ∧ (v = .slice none 0 0 ∨ ∃ a n c, v = .slice (some a) n c) ∧ L.length ≤ 1048576 := by
  obtain ⟨fuel, hf⟩ := h
  obtain ⟨a0, len, cap, rfl⟩ := okWide_slice Try.underlying22 hv
  have hf' : DataW.trod enc Try.prog W 0 (fun _ => true) true fuel 22 [Value.slice a0 len cap] = some (d, p) := by simpa [Value.cells] using hf
  obtain ⟨L, hL⟩ := open_lists hf' hk
  have el : len = L.length := by
    obtain ⟨a, c, e⟩ := hL.form
    injection e
  rcases Deep.open_int_rows Try.underlying22 Try.underlying23 Try.underlying5 cells22 cells5 hf' with ⟨hcs, hx⟩ | ⟨a, len', cap', A, L', C, Z, hcs, _, hl, hm, hx, hr⟩
  · simp only [List.cons.injEq, Value.slice.injEq, and_true] at hcs
    obtain ⟨rfl, rfl, rfl⟩ := hcs
    exact ⟨L, hL, Or.inl rfl, by omega⟩
  · simp only [List.cons.injEq, Value.slice.injEq, and_true] at hcs
    obtain ⟨rfl, rfl, rfl⟩ := hcs
    simp only [Prod.mk.injEq] at hx
    refine ⟨L, hL, Or.inr ⟨_, _, _, rfl⟩, ?_⟩
    rw [hx.1] at hb
    have := bulk_len (H := H) ((List.range len).map fun r => Deep.intRow .u8 (A r) (L' r) (Z r))
    simp only [List.length_map, List.length_range] at this
    simp only [Rows.uptoBulk] at hb
    omega
end Go.Proofs.Ytledfigfokoiiaa
