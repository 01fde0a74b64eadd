import Derived.Test.YtdigimobicfabaaGreatDoorCards
import Derived.Test.YtdigimobicfabaaGreatDoorTie
import Derived.ProofKit
import Derived.OpenShut
import Derived.Deep.DeepHandedRow
import Derived.Lib.LaidTab
import Derived.Lib.LaidU8
/-
  The table of journal's kinds, as the rows lay it.
-/
namespace Go.Proofs.YtdigimobicfabaaGreatDoor.Dg
open Go Go.ChangeShapes Go.WideShapes Go.ChangeAt Go.RowKit
def KN : List Value := [.int .i64 (.ofNat 1), .int .i64 (.ofNat 0), .int .i64 (.ofNat 0), .bool true, .int .i64 (.ofNat 2), .int .i64 (.ofNat 1), .int .i64 (.ofNat 32), .bool false]
theorem gKinds : Tryz.prog.globalNamed "cairn/journal.kinds" = some 4 := by kernel_rfl
theorem tKinds : (Tryz.prog.globals[4]?).map (·.type) = some 421 := by kernel_rfl
set_option maxRecDepth 100000 in
theorem kinds_row {H : Type} {enc : TypeId × Value → H} {w : World} {base : Nat} {sp : Nat → Bool} {held : Bool} {fuel : Nat} {x : DataW H × List MemPlace} {a b c d : Value} {z1 z2 z3 : Int} {t : Bool}
    (h : DataW.trod enc Tryz.prog w base sp held fuel 371 [a, b, c, d] = some x) (hx : x.1 = .agg [.lit (.int .i64 z1), .lit (.int .i64 z2), .lit (.int .i64 z3), .lit (.bool t)]) :
    a = .int .i64 z1 ∧ b = .int .i64 z2 ∧ c = .int .i64 z3 ∧ d = .bool t := by
  obtain ⟨xs, m, _, rfl, _, hn, hf⟩ := DataW.trod_struct (fs := _) (show Tryz.prog.underlying 371 = some (.struct _) from Tryz.underlying371) h
  obtain ⟨x0, x1, x2, x3, rfl⟩ : ∃ x0 x1 x2 x3, xs = [x0, x1, x2, x3] := by
    match xs, hn with
    | [x0, x1, x2, x3], _ => exact ⟨x0, x1, x2, x3, rfl⟩
  have h0 := hf 0 _ rfl
  have h1 := hf 1 _ rfl
  have h2 := hf 2 _ rfl
  have h3 := hf 3 _ rfl
  simp only [List.getElem?_cons_zero, List.getElem?_cons_succ] at h0 h1 h2 h3
  obtain ⟨n0, e0, r0, _⟩ := DataW.trod_int Tryz.underlying3 h0
  obtain ⟨n1, e1, r1, _⟩ := DataW.trod_int Tryz.underlying2 h1
  obtain ⟨n2, e2, r2, _⟩ := DataW.trod_int Tryz.underlying3 h2
  obtain ⟨n3, e3, r3⟩ := DataW.trod_bool Tryz.underlying4 h3
  subst r0 r1 r2 r3
  cases e0; cases e1; cases e2; cases e3
  simp only [List.map, DataW.agg.injEq, List.cons.injEq, DataW.lit.injEq, Lit.int.injEq, Lit.bool.injEq, true_and, and_true] at hx
  obtain ⟨rfl, rfl, rfl, rfl⟩ := hx
  exact ⟨rfl, rfl, rfl, rfl⟩
set_option maxRecDepth 100000 in
theorem kinds_cells {H : Type} {enc : TypeId × Value → H} {w : World} {base : Nat} {sp : Nat → Bool} {held : Bool} {fuel : Nat} {cs : List Value} {p : List MemPlace}
    (h : DataW.trod enc Tryz.prog w base sp held fuel 421 cs = some (Rows.laid_cairn_journal_kinds, p)) : cs = KN := by
  obtain ⟨xs, m, _, hx, hl, hn, hf⟩ := DataW.trod_array Tryz.underlying421 h
  obtain ⟨x0, x1, rfl⟩ : ∃ x0 x1, xs = [x0, x1] := by
    match xs, hn with
    | [x0, x1], _ => exact ⟨x0, x1, rfl⟩
  have c0 : Tryz.prog.cellsOf 421 = 8 := by kernel_rfl
  have c1 : Tryz.prog.cellsOf 371 = 4 := by kernel_rfl
  rw [c0] at hl
  match cs, hl with
  | [a0, a1, a2, a3, a4, a5, a6, a7], _ =>
    have h0 := hf 0 (by decide)
    have h1 := hf 1 (by decide)
    rw [c1] at h0 h1
    have hx1 := congrArg Prod.fst hx
    unfold Rows.laid_cairn_journal_kinds at hx1
    simp only [List.map, DataW.agg.injEq, List.cons.injEq, and_true] at hx1
    obtain ⟨rfl, rfl, rfl, rfl⟩ := kinds_row h0 hx1.1.symm
    obtain ⟨rfl, rfl, rfl, rfl⟩ := kinds_row h1 hx1.2.symm
    rfl
set_option maxRecDepth 100000 in
theorem kinds_met {W : World} {l : List (String × DataW Unit)} (h : laidMet Tryz.prog l W) (m1 : ("cairn/journal.kinds", Rows.laid_cairn_journal_kinds) ∈ l) : ∀ i, W.cell? ⟨4, i, none⟩ = KN[i]? := by
  obtain ⟨g', t', cs, fuel, p, hg', ht', hvar, hd⟩ := Lib.laidMet.reads h m1
  obtain rfl := Option.some.inj (gKinds.symm.trans hg')
  obtain rfl := Option.some.inj (tKinds.symm.trans ht')
  intro i
  have := World.var?_cell gKinds hvar i
  rw [this]
  rw [← kinds_cells hd]
  simp
end Go.Proofs.YtdigimobicfabaaGreatDoor.Dg
