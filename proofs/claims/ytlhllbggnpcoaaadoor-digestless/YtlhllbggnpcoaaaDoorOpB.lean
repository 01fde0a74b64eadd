import Derived.Test.YtlhllbggnpcoaaaDoorWit
import Derived.Test.YtlhllbggnpcoaaaDoorCmpb
import Derived.Test.YtlhllbggnpcoaaaDoorWr
import Derived.SizedLaws
/-
  An argument of bytes, opened.
-/
namespace Go.Proofs.YtlhllbggnpcoaaaDoor
open Go.ChangeShapes Go.WideShapes Go.ChangeAt Go.RowKit

theorem laidOut : laidOutB Tryd.prog = true := by kernel_rfl
theorem cells5 : Tryd.prog.cellsOf 5 = 1 := by kernel_rfl
theorem bytes5 : Tryd.prog.bytesOf 5 = 1 := by kernel_rfl
/-- AN ARGUMENT OF TYPE []byte. -/
theorem open_bytes1 {H : Type} {enc : TypeId × Value → H} {W : World} {fuel : Nat} {a0 : Option Addr} {len cap : Nat} {d : DataW H} {p : List MemPlace}
    (hf : DataW.trod enc Tryd.prog W 0 (fun _ => true) true fuel 22 [Value.slice a0 len cap] = some (d, p)) (hk : ∀ es sp, d = .slice es sp → es.length + sp.length ≤ 140737488351232) :
    ∃ (b off : Nat) (X : Nat → Nat), View W a0 b off len (fun i => (X i : Int)) ∧ (∀ i, X i < 256) ∧ len ≤ cap ∧ (a0 = none → cap = 0) ∧ len ≤ 140737488351232 := by
  rcases open_ints Tryd.underlying22 Tryd.underlying5 cells5 hf with ⟨hcs, hx⟩ | ⟨a, len', cap', zs, hcs, _, hl, hm, hz, hx, hcell, hwz⟩
  · simp only [List.cons.injEq, Value.slice.injEq, and_true] at hcs
    obtain ⟨rfl, rfl, rfl⟩ := hcs
    exact ⟨0, 0, fun _ => 0, view_empty _ _ _ _ _ _ rfl, fun _ => (by decide : 0 < 256), Nat.le_refl _, fun _ => rfl, by omega⟩
  · simp only [List.cons.injEq, Value.slice.injEq, and_true] at hcs
    obtain ⟨rfl, rfl, rfl⟩ := hcs
    simp only [Prod.mk.injEq] at hx
    simp only [if_true] at hz
    have hlen : len ≤ 140737488351232 := by
      have q := hk _ _ hx.1
      have e : (lits (H := H) .u8 (zs.take len)).length = len := by simp [lits]; omega
      omega
    by_cases h0 : 0 < len
    · obtain ⟨b, off, rfl, hc⟩ := ints_at hcell (by omega)
      have bd : ∀ j, 0 ≤ zs.getD j 0 ∧ zs.getD j 0 ≤ 255 := fun j => by
        have := range_u8 hwz j
        simpa [List.getD] using this
      refine ⟨b, off, fun i => (zs.getD i 0).toNat % 256, ⟨fun _ => rfl, fun i hi => ?_, fun i hi => ?_, by omega⟩, fun i => Nat.mod_lt _ (by decide), hl, (fun h => by cases h), hlen⟩
      · have c := hc i (by omega)
        rw [c]
        have b1 := bd i
        show some (Value.int .u8 (zs.getD i 0)) = some (Value.int .u8 ((((zs.getD i 0).toNat % 256 : Nat)) : Int))
        congr 2
        omega
      · have := Nat.mod_lt (zs.getD i 0).toNat (show 0 < 256 by decide)
        show 0 ≤ ((((zs.getD i 0).toNat % 256 : Nat)) : Int) ∧ ((((zs.getD i 0).toNat % 256 : Nat)) : Int) ≤ 255
        omega
    · exact ⟨0, 0, fun _ => 0, view_empty _ _ _ _ _ _ (by omega), fun _ => (by decide : 0 < 256), hl, (fun h => by cases h), hlen⟩
/-- so told as a list -/
theorem open_bytes4 {H : Type} {enc : TypeId × Value → H} {W : World} {fuel : Nat} {a0 : Option Addr} {len cap : Nat} {d : DataW H} {p : List MemPlace}
    (hf : DataW.trod enc Tryd.prog W 0 (fun _ => true) true fuel 22 [Value.slice a0 len cap] = some (d, p)) (hk : ∀ es sp, d = .slice es sp → es.length + sp.length ≤ 140737488351232) :
    ∃ (b off : Nat) (t : List Nat), len = t.length ∧ Vw W a0 b off t ∧ t.length ≤ cap ∧ t.length ≤ 140737488355328 := by
  obtain ⟨b, off, X, hv, _, hc, _, hl⟩ := open_bytes1 hf hk
  exact ⟨b, off, lst len X, (lst_len _ _).symm, vw_of hv, by rw [lst_len]; exact hc, by rw [lst_len]; omega⟩
end Go.Proofs.YtlhllbggnpcoaaaDoor
