import Derived.Test.YtledfigfokoiiaaLvq
import Derived.SizedLaws
import Derived.OpenShut
import Derived.Laws.BytesArg
import Derived.Deep.Slices
import Derived.Deep.Matrix
/-
  Arguments opened: bytes, lists of bytes, numbers.
-/
namespace Go.Proofs.Ytledfigfokoiiaa
open Go.ChangeShapes Go.WideShapes Go.ChangeAt Go.RowKit
theorem laidOut : laidOutB Try.prog = true := by kernel_rfl
theorem cells5 : Try.prog.cellsOf 5 = 1 := by kernel_rfl
theorem bytes5 : Try.prog.bytesOf 5 = 1 := by kernel_rfl
theorem cells4 : Try.prog.cellsOf 4 = 1 := by kernel_rfl
theorem bytes23 : Try.prog.bytesOf 23 = 24 := by kernel_rfl
theorem cells22 : Try.prog.cellsOf 23 = 1 := by kernel_rfl
theorem reach4 : reachBytes = 140737488351232 := by decide
theorem view_empty (w : World) (a : Option Addr) (b off n : Nat) (Z : Nat → Int) (h : n = 0) : View w a b off n Z :=
  ⟨fun h' => absurd h' (by omega), fun i hi => absurd hi (by omega), fun i hi => absurd hi (by omega), by omega⟩
theorem oaddr_at {w : World} {a : Addr} {v : Value} (h : w.cell? (a.add 0) = some v) : a = ⟨a.block, a.off, none⟩ := by
  obtain ⟨bl, o, sp⟩ := a
  cases sp with
  | none => rfl
  | some x =>
    exfalso
    have e : (⟨bl, o, some x⟩ : Addr).add 0 = ⟨bl, o, some x⟩ := by unfold Addr.add; simp
    rw [e] at h
    unfold World.cell? at h
    split at h <;> simp at h
/-- bytes -/
theorem open_bytesW {H : Type} {enc : TypeId × Value → H} {W : World} {fuel : Nat} {v : Value} {d : DataW H} {p : List MemPlace}
    (hf : DataW.trod enc Try.prog W 0 (fun _ => true) true fuel 23 [v] = some (d, p)) (hk : ∀ n ∈ d.weights Try.prog 23, n ≤ reachBytes) : ∃ t, Vb W v t := by
  rcases open_ints Try.underlying23 Try.underlying5 cells5 hf with ⟨hcs, hx⟩ | ⟨a, len, cap, zs, hcs, _, hl, hm, hz, hx, hcell, hwz⟩
  · simp only [List.cons.injEq, and_true] at hcs
    subst hcs
    exact ⟨[], none, 0, 0, 0, rfl, view_empty _ _ _ _ _ _ rfl, Nat.le_refl _, fun _ => rfl, by simp⟩
  · simp only [List.cons.injEq, and_true] at hcs
    subst hcs
    simp only [Prod.mk.injEq] at hx
    simp only [if_true] at hz
    have hlen : len ≤ 140737488351232 := by
      have e : (lits (H := H) .u8 (zs.take len)).length = len := by simp [lits]; omega
      have q := hk ((lits (H := H) .u8 (zs.take len)).length * Try.prog.bytesOf 5 + (lits (H := H) .u8 (zs.drop len)).length * Try.prog.bytesOf 5) (by
        rw [hx.1, ← Nat.add_mul]
        simp only [DataW.weights, Try.underlying23]
        exact List.mem_cons_self)
      rw [bytes5, reach4] at q
      omega
    by_cases h0 : 0 < len
    · obtain ⟨b, off, rfl, hc⟩ := ints_at hcell (by omega)
      have bd : ∀ j, 0 ≤ zs.getD j 0 ∧ zs.getD j 0 ≤ 255 := fun j => by
        have := range_u8 hwz j
        simpa [List.getD] using this
      refine ⟨lst len (fun i => (zs.getD i 0).toNat % 256), _, b, off, cap, by rw [lst_len], vw_of ⟨fun _ => rfl, fun i hi => ?_, fun i hi => ?_, by omega⟩, by rw [lst_len]; exact hl, (fun h => by cases h), by rw [lst_len]; exact hlen⟩
      · have c := hc i (by omega)
        rw [c]
        have b1 := bd i
        show some (Value.int .u8 (zs.getD i 0)) = some (Value.int .u8 ((((zs.getD i 0).toNat % 256 : Nat)) : Int))
        congr 2
        omega
      · have := Nat.mod_lt (zs.getD i 0).toNat (show 0 < 256 by decide)
        show 0 ≤ ((((zs.getD i 0).toNat % 256 : Nat)) : Int) ∧ ((((zs.getD i 0).toNat % 256 : Nat)) : Int) ≤ 255
        omega
    · have e0 : len = 0 := by omega
      subst e0
      exact ⟨[], _, 0, 0, cap, rfl, view_empty _ _ _ _ _ _ rfl, by simp, (fun h => by cases h), by simp⟩
theorem wall_mem {H : Type} {P : Program} {e : TypeId} : ∀ {l : List (DataW H)} {d : DataW H}, d ∈ l → ∀ n ∈ d.weights P e, n ∈ DataW.weightsAll P e l
  | x :: l, d, h, n, hn => by
    simp only [DataW.weightsAll, List.mem_append]
    rcases List.mem_cons.1 h with rfl | h
    · exact Or.inl hn
    · exact Or.inr (wall_mem h n hn)
/-- AN ARGUMENT OF BYTES -/
theorem open_bytesA {H : Type} {enc : TypeId × Value → H} {W : World} {base : Nat} {v : Value} {d : DataW H} {p : List MemPlace} (hv : Value.okWide Try.prog W .any base 23 v) (h : DataW.Trod enc Try.prog W 0 (fun _ => true) true 23 v d p) (hk : ∀ n ∈ d.weights Try.prog 23, n ≤ reachBytes) : ∃ t, Vb W v t := by
  obtain ⟨fuel, hf⟩ := h
  obtain ⟨a, n, c, rfl⟩ := okWide_slice Try.underlying23 hv
  exact open_bytesW (by simpa [Value.cells] using hf) hk
theorem weight_row {H : Type} {A : Option Addr} {L C : Nat} {zs : List Int} (hL : L ≤ C) (hz : zs.length = C) (hn : A = none → C = 0) (hk : ∀ n ∈ (Deep.intRow (H := H) .u8 A L zs).weights Try.prog 23, n ≤ reachBytes) : L ≤ 140737488351232 := by
  cases A with
  | none => have := hn rfl; omega
  | some a =>
    have q := hk ((lits (H := H) .u8 (zs.take L)).length * Try.prog.bytesOf 5 + (lits (H := H) .u8 (zs.drop L)).length * Try.prog.bytesOf 5) (by
      rw [← Nat.add_mul]
      simp only [Deep.intRow, DataW.weights, Try.underlying23]
      exact List.mem_cons_self)
    have e : (lits (H := H) .u8 (zs.take L)).length = L := by simp [lits]; omega
    rw [bytes5, reach4] at q
    omega
theorem open_lists {H : Type} {enc : TypeId × Value → H} {W : World} {fuel : Nat} {a0 : Option Addr} {len cap : Nat} {d : DataW H} {p : List MemPlace}
    (hf : DataW.trod enc Try.prog W 0 (fun _ => true) true fuel 22 [Value.slice a0 len cap] = some (d, p)) (hk : ∀ n ∈ d.weights Try.prog 22, n ≤ reachBytes) :
    ∃ L : List (List Nat), Lv W (.slice a0 len cap) L := by
  rcases Deep.open_int_rows Try.underlying22 Try.underlying23 Try.underlying5 cells22 cells5 hf with ⟨hcs, hx⟩ | ⟨a, len', cap', A, L, C, Z, hcs, _, hl, hm, hx, hr⟩
  · simp only [List.cons.injEq, Value.slice.injEq, and_true] at hcs
    obtain ⟨rfl, rfl, rfl⟩ := hcs
    exact ⟨[], none, 0, 0, 0, [], rfl, rfl, (fun h => by simp at h), (fun i u hu => by cases hu), (fun i u s hu => by cases hu), by simp, by simp⟩
  · simp only [List.cons.injEq, Value.slice.injEq, and_true] at hcs
    obtain ⟨rfl, rfl, rfl⟩ := hcs
    simp only [Prod.mk.injEq] at hx
    have hb : ∀ r, r < len → L r ≤ 140737488351232 := fun r hr' => by
      refine weight_row (H := H) (hr r (by omega)).2.1 (hr r (by omega)).2.2.2.1 (hr r (by omega)).2.2.2.2.2.1 (fun n hn => hk n ?_)
      rw [hx.1]
      simp only [DataW.weights, Try.underlying22]
      exact List.mem_cons_of_mem _ (List.mem_append_left _ (wall_mem (d := Deep.intRow .u8 (A r) (L r) (Z r)) (List.mem_map.2 ⟨r, by simpa using hr', rfl⟩) _ hn))
    have hlen : len ≤ 8796093022208 := by
      have q := hk ((((List.range len).map fun r => Deep.intRow (H := H) .u8 (A r) (L r) (Z r)).length + ((List.range (cap - len)).map fun j => Deep.intRow (H := H) .u8 (A (len + j)) (L (len + j)) (Z (len + j))).length) * Try.prog.bytesOf 23) (by
        rw [hx.1]
        simp only [DataW.weights, Try.underlying22]
        exact List.mem_cons_self)
      rw [bytes23, reach4] at q
      simp only [List.length_map, List.length_range] at q
      omega
    have hv : ∀ r, r < len → Vb W (.slice (A r) (L r) (C r)) (lst (L r) (fun j => ((Z r).getD j 0).toNat % 256)) := fun r hr' => by
      obtain ⟨_, h1, h2, h3, h4, h5, h6⟩ := hr r (by omega)
      have bd : ∀ j, 0 ≤ (Z r).getD j 0 ∧ (Z r).getD j 0 ≤ 255 := fun j => by
        have := range_u8 h4 j
        simpa [List.getD] using this
      cases hA : A r with
      | none =>
        have hc := h5 hA
        have hL0 : L r = 0 := by omega
        rw [hL0, hc]
        exact ⟨none, 0, 0, 0, rfl, view_empty _ _ _ _ _ _ rfl, Nat.le_refl _, fun _ => rfl, by simp [lst]⟩
      | some a' =>
        have h7 := (h6 a' hA).2
        by_cases h0 : 0 < L r
        · have e := oaddr_at (h7 0 (by omega))
          refine ⟨_, a'.block, a'.off, C r, by rw [lst_len], vw_of ⟨fun _ => by rw [← e], fun j hj => ?_, fun j hj => ?_, by have := hb r hr'; omega⟩, by rw [lst_len]; exact h1, (fun h => by cases h), by rw [lst_len]; have := hb r hr'; omega⟩
          · have c := h7 j (by omega)
            rw [e, add_plain] at c
            rw [c]
            have b1 := bd j
            show some (Value.int .u8 ((Z r).getD j 0)) = some (Value.int .u8 (((((Z r).getD j 0).toNat % 256 : Nat)) : Int))
            congr 2
            omega
          · have := Nat.mod_lt ((Z r).getD j 0).toNat (show 0 < 256 by decide)
            show 0 ≤ (((((Z r).getD j 0).toNat % 256 : Nat)) : Int) ∧ _
            omega
        · have hL0 : L r = 0 := by omega
          rw [hL0]
          exact ⟨_, 0, 0, C r, rfl, view_empty _ _ _ _ _ _ rfl, by simp [lst], (fun h => by cases h), by simp [lst]⟩
    have el : ((List.range len).map fun r => lst (L r) (fun j => ((Z r).getD j 0).toNat % 256)).length = len := by simp
    refine ⟨(List.range len).map (fun r => lst (L r) (fun j => ((Z r).getD j 0).toNat % 256)), _, a.block, a.off, cap, (List.range len).map (fun r => .slice (A r) (L r) (C r)), by rw [el], by simp, fun h0 => ?_, fun i u hu => ?_, fun i u s hu hs => ?_, by rw [el]; exact hl, by rw [el]; omega⟩
    · rw [el] at h0
      exact congrArg some (oaddr_at (hr 0 (by omega)).1)
    · rw [List.getElem?_map] at hu
      have hi : i < len := by
        rcases Nat.lt_or_ge i len with q | q
        · exact q
        · rw [List.getElem?_eq_none (by simpa using q)] at hu; cases hu
      rw [List.getElem?_range hi] at hu
      have := Option.some.inj hu
      subst this
      have c := (hr i (by omega)).1
      have e := oaddr_at (hr 0 (by omega)).1
      rw [e, add_plain] at c
      exact c
    · rw [List.getElem?_map] at hu hs
      have hi : i < len := by
        rcases Nat.lt_or_ge i len with q | q
        · exact q
        · rw [List.getElem?_eq_none (by simpa using q)] at hu; cases hu
      rw [List.getElem?_range hi] at hu hs
      have q1 := Option.some.inj hu
      have q2 := Option.some.inj hs
      subst q1
      subst q2
      exact hv i hi
/-- AN ARGUMENT OF LISTS -/
theorem open_listsA {H : Type} {enc : TypeId × Value → H} {W : World} {base : Nat} {v : Value} {d : DataW H} {p : List MemPlace} (hv : Value.okWide Try.prog W .any base 22 v) (h : DataW.Trod enc Try.prog W 0 (fun _ => true) true 22 v d p) (hk : ∀ n ∈ d.weights Try.prog 22, n ≤ reachBytes) : ∃ L : List (List Nat), Lv W v L := by
  obtain ⟨fuel, hf⟩ := h
  obtain ⟨a, n, c, rfl⟩ := okWide_slice Try.underlying22 hv
  exact open_lists (by simpa [Value.cells] using hf) hk
end Go.Proofs.Ytledfigfokoiiaa
