import Derived.Test.YtglnjacaeefddaaDoorWithin
namespace Go.Proofs.YtglnjacaeefddaaDoor
open Go.RowKit

/-- the text of bytes -/
def str (n : Nat) (Z : Nat → Int) : ByteArray := strOfNums ((List.range n).map Z)
theorem convert_view {w : World} {a : Option Addr} {b off n : Nat} {Z : Nat → Int} (h : View w a b off n Z) (c : Nat) :
    (convert 22 9 (.slice a n c)).run Tryd.prog w = .ok (.string (str n Z)) w := by
  by_cases hn : n = 0
  · subst hn
    rw [run_convert_bytes_string w 22 9 5 _ 0 c Tryd.underlying22 Tryd.underlying5 Tryd.underlying9]
    cases a with
    | none => simp [Conv.bytesToString, str, strOfNums]; rfl
    | some p =>
      rw [run_bytesToString w p 0 c [] (by simpa using run_loadCells_list (P := Tryd.prog) w p [] (fun j v hj => by simp at hj))]
      simp [str, strOfNums]; rfl
  · obtain rfl := h.at_ (by omega)
    exact run_convert_bytes_arg (P := Tryd.prog) w 22 5 Tryd.underlying22 Tryd.underlying5 b off n c ((List.range n).map Z) (by simp) (fun i hi => by rw [h.cell i hi]; simp [hi]) 9 Tryd.underlying9

theorem str_toList (n : Nat) (Z : Nat → Int) : (str n Z).toList = (List.range n).map fun i => UInt8.ofNat (Z i).toNat := by
  rw [ByteArray.toList_eq]
  unfold str
  rw [strOfNums_data, List.map_map]
  rfl
theorem str_eq (n m : Nat) (Z Y : Nat → Int) (hz : ∀ i, i < n → 0 ≤ Z i ∧ Z i ≤ 255) (hy : ∀ i, i < m → 0 ≤ Y i ∧ Y i ≤ 255) : (str n Z).toList = (str m Y).toList ↔ Alike n m Z Y := by
  rw [str_toList, str_toList]
  constructor
  · intro h
    have hl : n = m := by simpa using congrArg List.length h
    subst hl
    refine ⟨rfl, fun i hi => ?_⟩
    have e := congrArg (fun l : List UInt8 => l[i]?) h
    simp [hi] at e
    have e2 := congrArg UInt8.toNat e
    have h1 := hz i hi
    have h2 := hy i hi
    rw [UInt8.toNat_ofNat_of_lt' (by have : (Z i).toNat < 256 := by omega
                                     simpa using this), UInt8.toNat_ofNat_of_lt' (by have : (Y i).toNat < 256 := by omega
                                                                                     simpa using this)] at e2
    omega
  · rintro ⟨rfl, h⟩
    refine List.map_congr_left fun i hi => ?_
    rw [h i (by simpa using hi)]

theorem elem22 : Tryd.prog.elem 22 = 5 := by kernel_rfl
theorem size5 (w : World) : (sizeOf 5).run Tryd.prog w = .ok 1 w := by kernel_rfl
theorem slice_upto (a : Option Addr) (n c K : Nat) (h : K ≤ c) (w : World) : (Instr.slice 22 (.slice a n c) none (some (.int .i64 K)) none).run Tryd.prog w = .ok (.slice a K c) w := by
  rw [run_slice_h w 22 a n c (by rw [elem22]; exact Tryd.underlying22) .i64 K (by omega) (by omega), elem22, size5]
  simp only [Result.andThen, sliced]
  congr 1
  cases a <;> simp [Addr.add]
theorem sliceAt_upto (a : Option Addr) (n c K : Nat) (h : K ≤ c) (w : World) : (Instr.sliceAt 22 (.slice a n c) none (some (.int .i64 K)) none).run Tryd.prog w = .ok (.slice a K c) w := by
  rw [run_sliceAt_slice w 22 _ _ _ _ (by rw [elem22]; exact Tryd.underlying22), slice_upto a n c K h w]


end Go.Proofs.YtglnjacaeefddaaDoor
