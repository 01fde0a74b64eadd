/-
  A list of lists of bytes opened, with a bound of its bulk.
-/
import Derived.Test.YtnknhjabebcmeaaOpU
import Derived.Test.YtnknhjabebcmeaaSl
import Derived.Deep.Matrix
namespace Go.Proofs.Ytnknhjabebcmeaa
open Go.ChangeShapes Go.WideShapes Go.ChangeAt Go.RowKit

theorem cells24 : Try.prog.cellsOf 23 = 1 := by kernel_rfl
theorem bulk_row {H : Type} {A : Option Addr} {L C : Nat} {zs : List Int} (hL : L ≤ C) (hz : zs.length = C) (hn : A = none → C = 0) : L ≤ Rows.uptoBulk (Deep.intRow (H := H) .u8 A L zs) := by
  cases A with
  | none => have := hn rfl; simp [Deep.intRow, Rows.uptoBulk]; omega
  | some a =>
    have a1 := bulk_len (H := H) (lits .u8 (zs.take L))
    have e : (lits (H := H) .u8 (zs.take L)).length = L := by simp [lits]; omega
    simp only [Deep.intRow, Rows.uptoBulk]
    omega
theorem open_listsU {H : Type} {enc : TypeId × Value → H} {W : World} {fuel : Nat} {a0 : Option Addr} {len cap : Nat} {d : DataW H} {p : List MemPlace}
    (hf : DataW.trod enc Try.prog W 0 (fun _ => true) true fuel 22 [Value.slice a0 len cap] = some (d, p)) (hk : Rows.uptoBulk d ≤ 1048576) :
    ∃ L : List (List Nat), Lv W (.slice a0 len cap) L ∧ L.length ≤ 1048576 ∧ ∀ p ∈ L, p.length ≤ 1048576 := by
  rcases Deep.open_int_rows Try.underlying22 Try.underlying23 Try.underlying5 cells24 cells5 hf with ⟨hcs, hx⟩ | ⟨a, len', cap', A, L, C, Z, hcs, _, hl, hm, hx, hr⟩
  · simp only [List.cons.injEq, Value.slice.injEq, and_true] at hcs
    obtain ⟨rfl, rfl, rfl⟩ := hcs
    exact ⟨[], ⟨none, 0, 0, 0, [], rfl, rfl, (fun h => by simp at h), (fun i u hu => by cases hu), (fun i u s hu => by cases hu), by simp, by simp⟩, by simp, (fun p hp => by cases hp)⟩
  · simp only [List.cons.injEq, Value.slice.injEq, and_true] at hcs
    obtain ⟨rfl, rfl, rfl⟩ := hcs
    simp only [Prod.mk.injEq] at hx
    have hb : ∀ r, r < len → L r ≤ 1048576 := fun r hr' => by
      have h1 := bulk_row (H := H) (hr r (by omega)).2.1 (hr r (by omega)).2.2.2.1 (hr r (by omega)).2.2.2.2.2.1
      have h2 := bulk_mem (H := H) (d := Deep.intRow .u8 (A r) (L r) (Z r)) (l := (List.range len).map fun r => Deep.intRow .u8 (A r) (L r) (Z r)) (List.mem_map.2 ⟨r, by simpa using hr', rfl⟩)
      rw [hx.1] at hk
      simp only [Rows.uptoBulk] at hk
      omega
    have hlen : len ≤ 1048576 := by
      rw [hx.1] at hk
      have := bulk_len (H := H) ((List.range len).map fun r => Deep.intRow .u8 (A r) (L r) (Z r))
      simp only [List.length_map, List.length_range] at this
      simp only [Rows.uptoBulk] at hk
      omega
    have hv : ∀ r, r < len → Vb W (.slice (A r) (L r) (C r)) (lst (L r) (fun j => ((Z r).getD j 0).toNat % 256)) := fun r hr' => by
      obtain ⟨_, h1, h2, h3, h4, h5, h6⟩ := hr r (by omega)
      have bd : ∀ j, 0 ≤ (Z r).getD j 0 ∧ (Z r).getD j 0 ≤ 255 := fun j => by
        have := range_u8 h4 j
        simpa [List.getD] using this
      cases hA : A r with
      | none =>
        have hc := h5 hA
        have hL0 : L r = 0 := by omega
        rw [hL0, hc]
        exact ⟨none, 0, 0, 0, rfl, view_empty _ _ _ _ _ _ rfl, Nat.le_refl _, fun _ => rfl, by simp [lst]⟩
      | some a' =>
        have h7 := (h6 a' hA).2
        by_cases h0 : 0 < L r
        · have e := oaddr_at (h7 0 (by omega))
          refine ⟨_, a'.block, a'.off, C r, by rw [lst_len], vw_of ⟨fun _ => by rw [← e], fun j hj => ?_, fun j hj => ?_, by have := hb r hr'; omega⟩, by rw [lst_len]; exact h1, (fun h => by cases h), by rw [lst_len]; have := hb r hr'; omega⟩
          · have c := h7 j (by omega)
            rw [e, add_plain] at c
            rw [c]
            have b1 := bd j
            show some (Value.int .u8 ((Z r).getD j 0)) = some (Value.int .u8 (((((Z r).getD j 0).toNat % 256 : Nat)) : Int))
            congr 2
            omega
          · have := Nat.mod_lt ((Z r).getD j 0).toNat (show 0 < 256 by decide)
            show 0 ≤ (((((Z r).getD j 0).toNat % 256 : Nat)) : Int) ∧ _
            omega
        · have hL0 : L r = 0 := by omega
          rw [hL0]
          exact ⟨_, 0, 0, C r, rfl, view_empty _ _ _ _ _ _ rfl, by simp [lst], (fun h => by cases h), by simp [lst]⟩
    have el : ((List.range len).map fun r => lst (L r) (fun j => ((Z r).getD j 0).toNat % 256)).length = len := by simp
    refine ⟨(List.range len).map (fun r => lst (L r) (fun j => ((Z r).getD j 0).toNat % 256)), ⟨_, a.block, a.off, cap, (List.range len).map (fun r => .slice (A r) (L r) (C r)), by rw [el], by simp, fun h0 => ?_, fun i u hu => ?_, fun i u s hu hs => ?_, by rw [el]; exact hl, by rw [el]; omega⟩, by rw [el]; exact hlen, fun p hp => ?_⟩
    · rw [el] at h0
      exact congrArg some (oaddr_at (hr 0 (by omega)).1)
    · rw [List.getElem?_map] at hu
      have hi : i < len := by
        rcases Nat.lt_or_ge i len with q | q
        · exact q
        · rw [List.getElem?_eq_none (by simpa using q)] at hu; cases hu
      rw [List.getElem?_range hi] at hu
      have := Option.some.inj hu
      subst this
      have c := (hr i (by omega)).1
      have e := oaddr_at (hr 0 (by omega)).1
      rw [e, add_plain] at c
      exact c
    · rw [List.getElem?_map] at hu hs
      have hi : i < len := by
        rcases Nat.lt_or_ge i len with q | q
        · exact q
        · rw [List.getElem?_eq_none (by simpa using q)] at hu; cases hu
      rw [List.getElem?_range hi] at hu hs
      have q1 := Option.some.inj hu
      have q2 := Option.some.inj hs
      subst q1
      subst q2
      exact hv i hi
    · obtain ⟨r, hr', rfl⟩ := List.mem_map.1 hp
      rw [lst_len]
      exact hb r (by simpa using hr')
theorem open_listsAU {H : Type} {enc : TypeId × Value → H} {W : World} {base : Nat} {v : Value} {d : DataW H} {p : List MemPlace} (hv : Value.okWide Try.prog W .any base 22 v) (h : DataW.Trod enc Try.prog W 0 (fun _ => true) true 22 v d p) (hk : Rows.uptoBulk d ≤ 1048576) : ∃ L : List (List Nat), Lv W v L ∧ L.length ≤ 1048576 ∧ ∀ p ∈ L, p.length ≤ 1048576 := by
  obtain ⟨fuel, hf⟩ := h
  obtain ⟨a, n, c, rfl⟩ := okWide_slice Try.underlying22 hv
  exact open_listsU (by simpa [Value.cells] using hf) hk
theorem open_i64 {W : World} {base : Nat} {v : Value} (h : Value.okWide Try.prog W .any base 3 v) : ∃ m : Int, v = .int .i64 m ∧ -9223372036854775808 ≤ m ∧ m ≤ 9223372036854775807 := by
  obtain ⟨m, rfl⟩ := okWide_int (k := .i64) Try.underlying3 h
  simp only [Value.okWide, Try.underlying3, Cell.okWide] at h
  simp [Cell.ok, IntKind.has, IntKind.min, IntKind.max, IntKind.signed, IntKind.bits] at h
  exact ⟨m, rfl, by omega, by omega⟩
end Go.Proofs.Ytnknhjabebcmeaa
