import Derived.Test.YtpmdjopojcgpeaaGreatDoorChecked
import Derived.WalkKit
import Derived.Deep.OwnRows
import Derived.Deep.LoopGhost
import Derived.Deep.QuietTactic
import Derived.BigQuiet
import Derived.Deep.Light
import Derived.Laws.BytesArg
import Derived.WalkSmall
import Derived.Laws.BitsAllLaws
import Derived.Laws.Tables
import Derived.DeepKeys
import Derived.Deep.RegionHeld3
import Derived.Deep.MidRow
/-
  mac.Equal.
-/
namespace Go.Proofs.YtpmdjopojcgpeaaGreatDoor.Dg
open Go.RowKit

def arrA (F : Nat → Nat) : Array Value := ((List.range 32).map (fun i => Value.int .u8 (F i))).toArray
def arrL (F : Nat → Nat) : List Value := (List.range 32).map (fun i => Value.int .u8 (F i))
theorem arrA_size (F : Nat → Nat) : (arrA F).size = 32 := by simp [arrA]
theorem arrA_cell (F : Nat → Nat) : ∀ i, i < 32 → (arrA F)[i]? = some (.int .u8 (F i)) := by
  intro i hi
  unfold arrA
  rw [List.getElem?_toArray, List.getElem?_map, List.getElem?_range hi]
  rfl
theorem info23 : (Tryz.prog.info? 38).map (·.size) = some 32 := by kernel_rfl
theorem arrL_len (F : Nat → Nat) : (Tryz.prog.info? 38).map (·.size) = some (arrL F).length := by
  unfold arrL
  simp only [List.length_map, List.length_range]
  exact info23

/-- what the first k bytes part by -/
def ap (F G : Nat → Nat) : Nat → Nat
  | 0 => 0
  | k + 1 => ap F G k ||| (F k ^^^ G k)
theorem ap_lt {F G : Nat → Nat} (hF : ∀ i, F i < 256) (hG : ∀ i, G i < 256) : ∀ k, ap F G k < 256
  | 0 => by simp [ap]
  | k + 1 => Nat.or_lt_two_pow (n := 8) (ap_lt hF hG k) (Nat.xor_lt_two_pow (n := 8) (hF k) (hG k))
theorem xor_zero_iff (a b : Nat) : a ^^^ b = 0 ↔ a = b := by
  constructor
  · intro h
    have e : a ^^^ b ^^^ b = 0 ^^^ b := by rw [h]
    rw [Nat.xor_assoc, Nat.xor_self, Nat.xor_zero, Nat.zero_xor] at e
    exact e
  · intro h
    rw [h, Nat.xor_self]
theorem ap_zero (F G : Nat → Nat) : ∀ k, ap F G k = 0 ↔ ∀ i, i < k → F i = G i
  | 0 => by simp [ap]
  | k + 1 => by
    simp only [ap]
    rw [Nat.or_eq_zero_iff, ap_zero F G k]
    constructor
    · rintro ⟨h1, h2⟩ i hi
      by_cases e : i = k
      · subst e
        exact (xor_zero_iff _ _).1 h2
      · exact h1 i (by omega)
    · intro h
      exact ⟨fun i hi => h i (by omega), (xor_zero_iff _ _).2 (h k (by omega))⟩

structure EqF (w wr : World) (F G : Nat → Nat) : Prop where
  below : Below w.heap.size w wr
  r2 : wr.rowIs w.heap.size 38 32 (fun i => .int .u8 (F i))
  r3 : wr.rowIs (w.heap.size + 1) 38 32 (fun i => .int .u8 (G i))
theorem EqF.drewN {w wr : World} {F G : Nat → Nat} (h : EqF w wr F G) (q : Nat) : EqF w (wr.drewN q) F G := ⟨below_drewN h.below q, h.r2.of_block rfl, h.r3.of_block rfl⟩
theorem eqf_start (w : World) (F G : Nat → Nat) : EqF w ((w.alloc (.cells (arrA F) 38)).alloc (.cells (arrA G) 38)) F G := by
  have r := World.rowIs_alloc w (arrA F) 38 (fun i => .int .u8 (F i)) (fun i hi => arrA_cell F i (by rw [arrA_size] at hi; exact hi))
  rw [arrA_size] at r
  have o := World.rowIs_alloc (w.alloc (.cells (arrA F) 38)) (arrA G) 38 (fun i => .int .u8 (G i)) (fun i hi => arrA_cell G i (by rw [arrA_size] at hi; exact hi))
  rw [arrA_size, World.size_alloc] at o
  exact ⟨((Below.refl _ _).alloc (Nat.le_refl _) _).alloc (by simp) _, r.alloc _, o⟩

end Go.Proofs.YtpmdjopojcgpeaaGreatDoor.Dg
