/-
  An argument of type []byte, opened once, nil or not.
-/
import Derived.Test.YtglnjacaeefddaaDoorLaid
import Derived.SizedLaws
namespace Go.Proofs.YtglnjacaeefddaaDoor
open Go.ChangeShapes Go.WideShapes Go.ChangeAt Go.RowKit

theorem laidOut : laidOutB Tryd.prog = true := by kernel_rfl
theorem bytes5 : Tryd.prog.bytesOf 5 = 1 := by kernel_rfl

theorem open_bytes {H : Type} {enc : TypeId × Value → H} {W : World} {fuel : Nat} {a0 : Option Addr} {len cap : Nat} {d : DataW H} {p : List MemPlace}
    (hf : DataW.trod enc Tryd.prog W 0 (fun _ => true) true fuel 22 [Value.slice a0 len cap] = some (d, p)) :
    ∃ (b off : Nat) (Z : Nat → Int), (0 < len → a0 = some ⟨b, off, none⟩) ∧ (∀ i, i < len → W.cell? ⟨b, off + i, none⟩ = some (.int .u8 (Z i))) ∧ (∀ i, i < len → 0 ≤ Z i ∧ Z i ≤ 255) ∧ len ≤ cap ∧
      ((d = .nil ∧ cap = 0) ∨ ∃ e s, d = .slice e s ∧ e.length + s.length = cap) := by
  rcases open_ints Tryd.underlying22 Tryd.underlying5 cells5 hf with ⟨hcs, hx⟩ | ⟨a, len', cap', zs, hcs, _, hl, hm, hz, hx, hcell, hwz⟩
  · simp only [List.cons.injEq, Value.slice.injEq, and_true] at hcs
    obtain ⟨rfl, rfl, rfl⟩ := hcs
    simp only [Prod.mk.injEq] at hx
    exact ⟨0, 0, fun _ => 0, fun h => absurd h (by omega), fun i h => absurd h (by omega), fun i h => absurd h (by omega), Nat.le_refl _, Or.inl ⟨hx.1, rfl⟩⟩
  · simp only [List.cons.injEq, Value.slice.injEq, and_true] at hcs
    obtain ⟨rfl, rfl, rfl⟩ := hcs
    simp only [Prod.mk.injEq] at hx
    simp only [if_true] at hz
    have hd : (d = .nil ∧ cap = 0) ∨ ∃ e s, d = .slice e s ∧ e.length + s.length = cap := Or.inr ⟨_, _, hx.1, by simp [lits]; omega⟩
    by_cases h0 : 0 < len
    · obtain ⟨b, off, rfl, hc⟩ := ints_at hcell (by omega)
      refine ⟨b, off, fun i => zs.getD i 0, fun _ => rfl, fun i hi => hc i (by omega), fun i hi => ?_, hl, hd⟩
      have := range_u8 hwz i
      simpa [List.getD] using this
    · exact ⟨0, 0, fun _ => 0, fun h => absurd h h0, fun i h => absurd h (by omega), fun i h => absurd h (by omega), hl, hd⟩

end Go.Proofs.YtglnjacaeefddaaDoor
