import Derived.Test.YtadcbhjmbgenbaaDoorChecked
import Derived.Conc.MuLone
import Derived.KernelRfl
import Derived.Test.YtadcbhjmbgenbaaDoorMacEq
/-
  The numbers under which this cut holds sync.Mutex, and that it holds it.
-/
namespace Go.Proofs.YtadcbhjmbgenbaaDoor
abbrev mu : Go.Conc.Locks.MuLink := { lock := 21, unlock := 22, ilock := 28, iunlock := 29, lockSlow := 41, unlockSlow := 44, disable := 37, enable := 39, acquire := 40, relMerge := 42, cas32 := 38, add32 := 43, tMutex := 54, tIMutex := 52, tPMutex := 63, tPIMutex := 77, tPI32 := 79, tUP := 81, tNoCopy := 49, tU32 := 50 }
theorem muLib : Go.Conc.Locks.MuLib Tryd.prog mu :=
  ⟨Tryd.func21, Tryd.func22, Tryd.func28, Tryd.func29, Tryd.func37, Tryd.func39, Tryd.func40, Tryd.func42, Tryd.func38, Tryd.func43, Tryd.underlying52, Tryd.runUnderlying52, Tryd.sizeOf52, Tryd.isAgg52, Tryd.zeroValue52, Tryd.underlying54, Tryd.runUnderlying54, Tryd.sizeOf54, Tryd.isAgg54, Tryd.zeroValue54, Tryd.underlying63, Tryd.runUnderlying63, Tryd.sizeOf63, Tryd.isAgg63, Tryd.zeroValue63, Tryd.underlying77, Tryd.runUnderlying77, Tryd.sizeOf77, Tryd.isAgg77, Tryd.zeroValue77, Tryd.underlying79, Tryd.runUnderlying79, Tryd.sizeOf79, Tryd.isAgg79, Tryd.zeroValue79, Tryd.underlying81, Tryd.runUnderlying81, Tryd.sizeOf81, Tryd.isAgg81, Tryd.zeroValue81, Tryd.underlying49, Tryd.runUnderlying49, Tryd.sizeOf49, Tryd.isAgg49, Tryd.zeroValue49, Tryd.underlying21, Tryd.runUnderlying21, Tryd.sizeOf21, Tryd.isAgg21, Tryd.zeroValue21, (by kernel_rfl)⟩
end Go.Proofs.YtadcbhjmbgenbaaDoor

/-
  mac: Code, of a code on its way and of parts.
-/
namespace Go.Proofs.YtadcbhjmbgenbaaDoor
open Go.RowKit

/-- two lists of bytes, in a new list -/
theorem parts_two {w : World} {A0 A1 : Option Addr} {b0 o0 m0 c0 b1 o1 m1 c1 : Nat} {Y0 Y1 : Nat → Nat} (h0 : View w A0 b0 o0 m0 (fun i => (Y0 i : Int))) (h1 : View w A1 b1 o1 m1 (fun i => (Y1 i : Int))) (k0 : m0 ≤ c0) (k1 : m1 ≤ c1) (hY0 : ∀ i, Y0 i < 256) (hY1 : ∀ i, Y1 i < 256) (t : TypeId) :
    Parts (w.alloc (.cells #[.slice A0 m0 c0, .slice A1 m1 c1] t)) (some ⟨w.heap.size, 0, none⟩) w.heap.size 0 2 (fun i => if i = 0 then A0 else A1) (fun i => if i = 0 then b0 else b1) (fun i => if i = 0 then o0 else o1) (fun i => if i = 0 then m0 else m1) (fun i => if i = 0 then c0 else c1) (fun i => if i = 0 then Y0 else Y1) := by
  have hb : Below w.heap.size w (w.alloc (.cells #[.slice A0 m0 c0, .slice A1 m1 c1] t)) := (Below.refl _ _).alloc (Nat.le_refl _) _
  refine ⟨fun _ => rfl, fun i hi => ?_, fun i hi => ?_, fun i hi => ?_, fun i j => ?_⟩
  · rw [cell_of_row _ _ _ _ t _ (heap_alloc_new w _)]
    match i, hi with
    | 0, _ => rfl
    | 1, _ => rfl
  · match i, hi with
    | 0, _ => exact h0.below hb
    | 1, _ => exact h1.below hb
  · match i, hi with
    | 0, _ => exact k0
    | 1, _ => exact k1
  · by_cases e : i = 0
    · simp only [if_pos e]
      exact hY0 j
    · simp only [if_neg e]
      exact hY1 j
theorem digest_two (m0 m1 : Nat) (Y0 Y1 : Nat → Nat) : digest (tot (fun i => if i = 0 then m0 else m1) 2) (jn (fun i => if i = 0 then m0 else m1) (fun i => if i = 0 then Y0 else Y1) 2) = digest (m0 + m1) (cat m0 Y0 Y1) := by
  have e : tot (fun i => if i = 0 then m0 else m1) 2 = m0 + m1 := by simp [tot]
  rw [e]
  refine digest_congr (fun i _ => ?_)
  simp [jn, cat, tot]
theorem sum_two (w : World) (A0 A1 : Option Addr) (b0 o0 m0 c0 b1 o1 m1 c1 t cap : Nat) (Y0 Y1 : Nat → Nat) (h0 : View w A0 b0 o0 m0 (fun i => (Y0 i : Int))) (h1 : View w A1 b1 o1 m1 (fun i => (Y1 i : Int))) (k0 : m0 ≤ c0) (k1 : m1 ≤ c1) (hY0 : ∀ i, Y0 i < 256) (hY1 : ∀ i, Y1 i < 256) (hG : Ground w) :
    Calls Tryd.prog 24 #[.slice (some ⟨w.heap.size, 0, none⟩) 2 cap] (w.alloc (.cells #[.slice A0 m0 c0, .slice A1 m1 c1] t)) fun e w' => e = .returned (.agg (hashA (digest (m0 + m1) (cat m0 Y0 Y1)))) ∧ Below (w.alloc (.cells #[.slice A0 m0 c0, .slice A1 m1 c1] t)).heap.size (w.alloc (.cells #[.slice A0 m0 c0, .slice A1 m1 c1] t)) w' := by
  have G := hG.below ((Below.refl _ _).alloc (Nat.le_refl _) (.cells #[.slice A0 m0 c0, .slice A1 m1 c1] t))
  have h := sums_any _ _ _ _ 2 cap _ _ _ _ _ _ (parts_two h0 h1 k0 k1 hY0 hY1 t) G.roots G.first G.big (by omega) (by have := h0.len; have := h1.len; simp [tot]; omega)
  rw [digest_two] at h
  exact h

end Go.Proofs.YtadcbhjmbgenbaaDoor
