/-
  Arguments, opened.
-/
import Derived.Test.YtleabfmlokjllaaDoorLaid
import Derived.Test.YtleabfmlokjllaaDoorSm
import Derived.SizedLaws
import Derived.Deep.Matrix
namespace Go.Proofs.YtleabfmlokjllaaDoor
open Go.ChangeShapes Go.WideShapes Go.ChangeAt Go.RowKit

theorem laidOut : laidOutB Tryd.prog = true := by kernel_rfl
theorem cells5 : Tryd.prog.cellsOf 5 = 1 := by kernel_rfl
theorem cells24 : Tryd.prog.cellsOf 22 = 1 := by kernel_rfl

theorem bulk_pos {H : Type} (d : DataW H) : 1 ≤ Rows.uptoBulk d := by
  cases d with
  | lit l => cases l <;> simp [Rows.uptoBulk]
  | _ => simp [Rows.uptoBulk]
theorem bulk_len {H : Type} : ∀ l : List (DataW H), l.length ≤ Rows.uptoBulkAll l
  | [] => by simp [Rows.uptoBulkAll]
  | d :: r => by
    have h1 := bulk_pos d
    have h2 := bulk_len r
    simp only [Rows.uptoBulkAll, List.length_cons]
    omega
theorem bulk_app {H : Type} : ∀ l r : List (DataW H), Rows.uptoBulkAll (l ++ r) = Rows.uptoBulkAll l + Rows.uptoBulkAll r
  | [], r => by simp [Rows.uptoBulkAll]
  | d :: l, r => by
    simp only [List.cons_append, Rows.uptoBulkAll]
    rw [bulk_app l r]
    omega
theorem bulk_tot {H : Type} (F : Nat → DataW H) (L : Nat → Nat) : ∀ n, (∀ r, r < n → L r ≤ Rows.uptoBulk (F r)) → tot L n ≤ Rows.uptoBulkAll ((List.range n).map F)
  | 0, _ => by simp [tot]
  | n + 1, h => by
    have ih := bulk_tot F L n (fun r hr => h r (by omega))
    rw [List.range_succ, List.map_append, bulk_app]
    have := h n (by omega)
    simp only [tot, List.map_cons, List.map_nil, Rows.uptoBulkAll]
    omega
theorem bulk_row {H : Type} {A : Option Addr} {L C : Nat} {zs : List Int} (hL : L ≤ C) (hz : zs.length = C) (hn : A = none → C = 0) : L ≤ Rows.uptoBulk (Deep.intRow (H := H) .u8 A L zs) := by
  cases A with
  | none => have := hn rfl; simp [Deep.intRow, Rows.uptoBulk]; omega
  | some a =>
    have a1 := bulk_len (H := H) (lits .u8 (zs.take L))
    have e : (lits (H := H) .u8 (zs.take L)).length = L := by simp [lits]; omega
    simp only [Deep.intRow, Rows.uptoBulk]
    omega

def oblk : Option Addr → Nat
  | none => 0
  | some a => a.block
def ofs : Option Addr → Nat
  | none => 0
  | some a => a.off
theorem addr_at {w : World} {a : Addr} {v : Value} (h : w.cell? (a.add 0) = some v) : a = ⟨a.block, a.off, none⟩ := by
  obtain ⟨bl, o, sp⟩ := a
  cases sp with
  | none => rfl
  | some x =>
    exfalso
    have e : (⟨bl, o, some x⟩ : Addr).add 0 = ⟨bl, o, some x⟩ := by unfold Addr.add; simp
    rw [e] at h
    unfold World.cell? at h
    split at h <;> simp at h
theorem tot_at' (m : Nat → Nat) {i k : Nat} (h : i < k) : m i ≤ tot m k := by
  have := tot_mono m (show i + 1 ≤ k by omega)
  simp only [tot] at this
  omega
/-- AN ARGUMENT OF TYPE [][]byte. -/
theorem open_parts {H : Type} {enc : TypeId × Value → H} {W : World} {fuel : Nat} {a0 : Option Addr} {len cap : Nat} {d : DataW H} {p : List MemPlace}
    (hf : DataW.trod enc Tryd.prog W 0 (fun _ => true) true fuel 31 [Value.slice a0 len cap] = some (d, p)) (hk : Rows.uptoBulk d ≤ 1048576) :
    ∃ (pb po : Nat) (A : Nat → Option Addr) (b off m c : Nat → Nat) (Y : Nat → Nat → Nat), Parts W a0 pb po len A b off m c Y ∧ (∀ i, i < len → A i = none → c i = 0) ∧ len ≤ Rows.uptoBulk d ∧ tot m len ≤ Rows.uptoBulk d := by
  rcases Deep.open_int_rows Tryd.underlying31 Tryd.underlying22 Tryd.underlying5 cells24 cells5 hf with ⟨hcs, hx⟩ | ⟨a, len', cap', A, L, C, Z, hcs, _, hl, hm, hx, hr⟩
  · simp only [List.cons.injEq, Value.slice.injEq, and_true] at hcs
    obtain ⟨rfl, rfl, rfl⟩ := hcs
    exact ⟨0, 0, fun _ => none, fun _ => 0, fun _ => 0, fun _ => 0, fun _ => 0, fun _ _ => 0, ⟨fun h => absurd h (by omega), fun i h => absurd h (by omega), fun i h => absurd h (by omega), fun i h => absurd h (by omega), fun _ _ => by decide⟩, fun i h => absurd h (by omega), by omega, by simp [tot]⟩
  · simp only [List.cons.injEq, Value.slice.injEq, and_true] at hcs
    obtain ⟨rfl, rfl, rfl⟩ := hcs
    simp only [Prod.mk.injEq] at hx
    have bt : tot L len ≤ Rows.uptoBulk d := by
      rw [hx.1]
      have := bulk_tot (H := H) (fun r => Deep.intRow .u8 (A r) (L r) (Z r)) L len (fun r hr' => bulk_row (hr r (by omega)).2.1 (hr r (by omega)).2.2.2.1 (hr r (by omega)).2.2.2.2.2.1)
      simp only [Rows.uptoBulk]
      omega
    refine ⟨a.block, a.off, A, fun i => oblk (A i), fun i => ofs (A i), L, C, fun i j => ((Z i).getD j 0).toNat % 256, ⟨fun h0 => ?_, fun i hi => ?_, fun i hi => ?_, fun i hi => (hr i (by omega)).2.1, fun i j => Nat.mod_lt _ (by decide)⟩, fun i hi => (hr i (by omega)).2.2.2.2.2.1, ?_, ?_⟩
    · exact congrArg some (addr_at (hr 0 (by omega)).1)
    · have c := (hr i (by omega)).1
      have e := addr_at (hr 0 (by omega)).1
      rw [e, Go.WideShapes.add_plain] at c
      exact c
    · obtain ⟨_, h1, h2, h3, h4, h5, h6⟩ := hr i (by omega)
      have bd : ∀ j, 0 ≤ (Z i).getD j 0 ∧ (Z i).getD j 0 ≤ 255 := fun j => by
        have := range_u8 h4 j
        simpa [List.getD] using this
      cases hA : A i with
      | none =>
        have := h5 hA
        exact view_empty _ _ _ _ _ _ (by omega)
      | some a' =>
        have h7 := (h6 a' hA).2
        refine ⟨fun h0 => ?_, fun j hj => ?_, fun j hj => ?_, by have := tot_at' L hi; omega⟩
        · exact congrArg some (addr_at (h7 0 (by omega)))
        · have c := h7 j (by omega)
          have e := addr_at (h7 0 (by omega))
          rw [e, Go.WideShapes.add_plain] at c
          show W.cell? ⟨a'.block, a'.off + j, none⟩ = _
          rw [c]
          have b1 := bd j
          show some (Value.int .u8 ((Z i).getD j 0)) = some (Value.int .u8 (((((Z i).getD j 0).toNat % 256 : Nat)) : Int))
          congr 2
          omega
        · have := Nat.mod_lt ((Z i).getD j 0).toNat (show 0 < 256 by decide)
          show 0 ≤ (((((Z i).getD j 0).toNat % 256 : Nat)) : Int) ∧ _
          omega
    · rw [hx.1]
      have := bulk_len (H := H) ((List.range len).map fun r => Deep.intRow .u8 (A r) (L r) (Z r))
      simp only [List.length_map, List.length_range] at this
      simp only [Rows.uptoBulk]
      omega
    · exact bt
end Go.Proofs.YtleabfmlokjllaaDoor
