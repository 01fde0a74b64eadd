/-
  Bytes opened, with a bound of their number: for the second form of a statement.
-/
import Derived.Test.YtnknhjabebcmeaaOpB
import Derived.Test.YtnknhjabebcmeaaRows
namespace Go.Proofs.Ytnknhjabebcmeaa
open Go.ChangeShapes Go.WideShapes Go.ChangeAt Go.RowKit

theorem bulk_pos {H : Type} (d : DataW H) : 1 ≤ Rows.uptoBulk d := by
  cases d with
  | lit l => cases l <;> simp [Rows.uptoBulk]
  | _ => simp [Rows.uptoBulk]
theorem bulk_len {H : Type} : ∀ l : List (DataW H), l.length ≤ Rows.uptoBulkAll l
  | [] => by simp [Rows.uptoBulkAll]
  | d :: r => by
    have h1 := bulk_pos d
    have h2 := bulk_len r
    simp only [Rows.uptoBulkAll, List.length_cons]
    omega
theorem bulk_mem {H : Type} {d : DataW H} : ∀ {l : List (DataW H)}, d ∈ l → Rows.uptoBulk d ≤ Rows.uptoBulkAll l
  | x :: l, h => by
    simp only [Rows.uptoBulkAll]
    rcases List.mem_cons.1 h with rfl | e
    · omega
    · have := bulk_mem e; omega
theorem bulk_app {H : Type} : ∀ l r : List (DataW H), Rows.uptoBulkAll (l ++ r) = Rows.uptoBulkAll l + Rows.uptoBulkAll r
  | [], r => by simp [Rows.uptoBulkAll]
  | d :: l, r => by
    simp only [List.cons_append, Rows.uptoBulkAll]
    rw [bulk_app l r]
    omega
/-- bytes -/
theorem open_bytesU {H : Type} {enc : TypeId × Value → H} {W : World} {fuel : Nat} {v : Value} {d : DataW H} {p : List MemPlace}
    (hf : DataW.trod enc Try.prog W 0 (fun _ => true) true fuel 23 [v] = some (d, p)) (hk : ∀ n ∈ d.weights Try.prog 23, n ≤ reachBytes) : ∃ t, Vb W v t ∧ t.length ≤ Rows.uptoBulk d := by
  rcases open_ints Try.underlying23 Try.underlying5 cells5 hf with ⟨hcs, hx⟩ | ⟨a, len, cap, zs, hcs, _, hl, hm, hz, hx, hcell, hwz⟩
  · simp only [List.cons.injEq, and_true] at hcs
    subst hcs
    exact ⟨[], ⟨none, 0, 0, 0, rfl, view_empty _ _ _ _ _ _ rfl, Nat.le_refl _, fun _ => rfl, by simp⟩, by simp⟩
  · simp only [List.cons.injEq, and_true] at hcs
    subst hcs
    simp only [Prod.mk.injEq] at hx
    simp only [if_true] at hz
    have hlen : len ≤ 140737488351232 := by
      have e : (lits (H := H) .u8 (zs.take len)).length = len := by simp [lits]; omega
      have q := hk ((lits (H := H) .u8 (zs.take len)).length * Try.prog.bytesOf 5 + (lits (H := H) .u8 (zs.drop len)).length * Try.prog.bytesOf 5) (by
        rw [hx.1, ← Nat.add_mul]
        simp only [DataW.weights, Try.underlying23]
        exact List.mem_cons_self)
      rw [bytes5, reach4] at q
      omega
    have hbk : len ≤ Rows.uptoBulk d := by
      rw [hx.1]
      have a1 := bulk_len (H := H) (lits .u8 (zs.take len))
      have e : (lits (H := H) .u8 (zs.take len)).length = len := by simp [lits]; omega
      simp only [Rows.uptoBulk]
      omega
    by_cases h0 : 0 < len
    · obtain ⟨b, off, rfl, hc⟩ := ints_at hcell (by omega)
      have bd : ∀ j, 0 ≤ zs.getD j 0 ∧ zs.getD j 0 ≤ 255 := fun j => by
        have := range_u8 hwz j
        simpa [List.getD] using this
      refine ⟨lst len (fun i => (zs.getD i 0).toNat % 256), ⟨_, b, off, cap, by rw [lst_len], vw_of ⟨fun _ => rfl, fun i hi => ?_, fun i hi => ?_, by omega⟩, by rw [lst_len]; exact hl, (fun h => by cases h), by rw [lst_len]; exact hlen⟩, by rw [lst_len]; exact hbk⟩
      · have c := hc i (by omega)
        rw [c]
        have b1 := bd i
        show some (Value.int .u8 (zs.getD i 0)) = some (Value.int .u8 ((((zs.getD i 0).toNat % 256 : Nat)) : Int))
        congr 2
        omega
      · have := Nat.mod_lt (zs.getD i 0).toNat (show 0 < 256 by decide)
        show 0 ≤ ((((zs.getD i 0).toNat % 256 : Nat)) : Int) ∧ ((((zs.getD i 0).toNat % 256 : Nat)) : Int) ≤ 255
        omega
    · have e0 : len = 0 := by omega
      subst e0
      exact ⟨[], ⟨_, 0, 0, cap, rfl, view_empty _ _ _ _ _ _ rfl, by simp, (fun h => by cases h), by simp⟩, by simp⟩
theorem open_bytesAU {H : Type} {enc : TypeId × Value → H} {W : World} {base : Nat} {v : Value} {d : DataW H} {p : List MemPlace} (hv : Value.okWide Try.prog W .any base 23 v) (h : DataW.Trod enc Try.prog W 0 (fun _ => true) true 23 v d p) (hk : ∀ n ∈ d.weights Try.prog 23, n ≤ reachBytes) : ∃ t, Vb W v t ∧ t.length ≤ Rows.uptoBulk d := by
  obtain ⟨fuel, hf⟩ := h
  obtain ⟨a, n, c, rfl⟩ := okWide_slice Try.underlying23 hv
  exact open_bytesU (by simpa [Value.cells] using hf) hk
end Go.Proofs.Ytnknhjabebcmeaa
