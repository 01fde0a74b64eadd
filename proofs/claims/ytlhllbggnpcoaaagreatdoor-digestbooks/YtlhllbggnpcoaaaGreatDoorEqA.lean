import Derived.Test.YtlhllbggnpcoaaaGreatDoorChecked
import Derived.WalkKit
import Derived.Deep.OwnRows
import Derived.Deep.LoopGhost
import Derived.Deep.QuietTactic
import Derived.BigQuiet
import Derived.Deep.Light
import Derived.Laws.BytesArg
import Derived.WalkSmall
import Derived.Laws.BitsAllLaws
import Derived.Laws.Tables
import Derived.DeepKeys
import Derived.Deep.RegionHeld3
import Derived.Deep.MidRow
/-
  mac.Equal.
-/
namespace Go.Proofs.YtlhllbggnpcoaaaGreatDoor
open Go.RowKit

def arrA (F : Nat → Nat) : Array Value := ((List.range 32).map (fun i => Value.int .u8 (F i))).toArray
def arrL (F : Nat → Nat) : List Value := (List.range 32).map (fun i => Value.int .u8 (F i))
theorem arrA_size (F : Nat → Nat) : (arrA F).size = 32 := by simp [arrA]
theorem arrA_cell (F : Nat → Nat) : ∀ i, i < 32 → (arrA F)[i]? = some (.int .u8 (F i)) := by
  intro i hi
  unfold arrA
  rw [List.getElem?_toArray, List.getElem?_map, List.getElem?_range hi]
  rfl
theorem info23 : (Tryz.prog.info? 31).map (·.size) = some 32 := by kernel_rfl
theorem arrL_len (F : Nat → Nat) : (Tryz.prog.info? 31).map (·.size) = some (arrL F).length := by
  unfold arrL
  simp only [List.length_map, List.length_range]
  exact info23

/-- what the first k bytes part by -/
def ap (F G : Nat → Nat) : Nat → Nat
  | 0 => 0
  | k + 1 => ap F G k ||| (F k ^^^ G k)
theorem ap_lt {F G : Nat → Nat} (hF : ∀ i, F i < 256) (hG : ∀ i, G i < 256) : ∀ k, ap F G k < 256
  | 0 => by simp [ap]
  | k + 1 => Nat.or_lt_two_pow (n := 8) (ap_lt hF hG k) (Nat.xor_lt_two_pow (n := 8) (hF k) (hG k))
theorem xor_zero_iff (a b : Nat) : a ^^^ b = 0 ↔ a = b := by
  constructor
  · intro h
    have e : a ^^^ b ^^^ b = 0 ^^^ b := by rw [h]
    rw [Nat.xor_assoc, Nat.xor_self, Nat.xor_zero, Nat.zero_xor] at e
    exact e
  · intro h
    rw [h, Nat.xor_self]
theorem ap_zero (F G : Nat → Nat) : ∀ k, ap F G k = 0 ↔ ∀ i, i < k → F i = G i
  | 0 => by simp [ap]
  | k + 1 => by
    simp only [ap]
    rw [Nat.or_eq_zero_iff, ap_zero F G k]
    constructor
    · rintro ⟨h1, h2⟩ i hi
      by_cases e : i = k
      · subst e
        exact (xor_zero_iff _ _).1 h2
      · exact h1 i (by omega)
    · intro h
      exact ⟨fun i hi => h i (by omega), (xor_zero_iff _ _).2 (h k (by omega))⟩

structure EqF (w wr : World) (F G : Nat → Nat) : Prop where
  below : Below w.heap.size w wr
  r2 : wr.rowIs w.heap.size 31 32 (fun i => .int .u8 (F i))
  r3 : wr.rowIs (w.heap.size + 1) 31 32 (fun i => .int .u8 (G i))
theorem EqF.drewN {w wr : World} {F G : Nat → Nat} (h : EqF w wr F G) (q : Nat) : EqF w (wr.drewN q) F G := ⟨below_drewN h.below q, h.r2.of_block rfl, h.r3.of_block rfl⟩
theorem eqf_start (w : World) (F G : Nat → Nat) : EqF w ((w.alloc (.cells (arrA F) 31)).alloc (.cells (arrA G) 31)) F G := by
  have r := World.rowIs_alloc w (arrA F) 31 (fun i => .int .u8 (F i)) (fun i hi => arrA_cell F i (by rw [arrA_size] at hi; exact hi))
  rw [arrA_size] at r
  have o := World.rowIs_alloc (w.alloc (.cells (arrA F) 31)) (arrA G) 31 (fun i => .int .u8 (G i)) (fun i hi => arrA_cell G i (by rw [arrA_size] at hi; exact hi))
  rw [arrA_size, World.size_alloc] at o
  exact ⟨((Below.refl _ _).alloc (Nat.le_refl _) _).alloc (by simp) _, r.alloc _, o⟩

set_option maxRecDepth 100000 in
set_option maxHeartbeats 1600000 in
theorem equal_any (w : World) (F G : Nat → Nat) (hF : ∀ i, F i < 256) (hG : ∀ i, G i < 256) (r : Bool) (hr : r = decide (ap F G 32 = 0)) :
    Calls Tryz.prog 30 #[.agg (arrA F), .agg (arrA G)] w fun e w' => e = .returned (.bool r) ∧ Below w.heap.size w w' := by
  have HE : Hid (EqF w ((w.alloc (.cells (arrA F) 31)).alloc (.cells (arrA G) 31)) F G) := eqf_start w F G
  have Hr : Hid (r = decide (ap F G 32 = 0)) := hr
  clear hr
  go_enter Tryz.func30, Tryz.ntmps30
  go_wp2_with fail
  go_loopg [5, 7] 32 (fun g v i wr => ∃ k : Nat, k ≤ 32 ∧ g = 32 - k ∧ v = .int .u8 (ap F G k) ∧ i = .int .i64 k ∧ EqF w wr F G)
  case atStart => exact ⟨0, by omega, rfl, rfl, rfl, HE.out⟩
  case round =>
    obtain ⟨k, hk, rfl, rfl, rfl, hR⟩ := hrel
    clear HE
    by_cases hk32 : k < 32
    · have c2 := hR.r2.cell (i := k) hk32
      have c3 := hR.r3.cell (i := k) hk32
      have fx := hF k
      have fy := hG k
      have fa := ap_lt hF hG k
      have fxy : F k ^^^ G k < 256 := Nat.xor_lt_two_pow (n := 8) (hF k) (hG k)
      have ea : ap F G (k + 1) = ap F G k ||| (F k ^^^ G k) := rfl
      obtain ⟨x, hx⟩ : ∃ x, x = F k := ⟨_, rfl⟩
      obtain ⟨y, hy⟩ : ∃ y, y = G k := ⟨_, rfl⟩
      obtain ⟨z, hz⟩ : ∃ z, z = ap F G k := ⟨_, rfl⟩
      rw [← hx, ← hy] at fxy ea
      rw [← hx] at c2 fx
      rw [← hy] at c3 fy
      rw [← hz] at fa ea
      rw [← hz]
      have hxx := u8_xor_nat x y fx fy
      have hoo := u8_or_nat z (x ^^^ y) fa fxy
      have HR : Hid (EqF w wr F G ∧ ap F G (k + 1) = z ||| (x ^^^ y)) := ⟨hR, ea⟩
      have ki : (k : Int) < 32 := by omega
      clear hR hx hy hz ea
      go_wp2_with fail
      go_quiet (fail)
      have HN : Hid (EqF w (wr.drewN nq) F G) := HR.out.1.drewN nq
      clear c2 c3
      go_wp2_with fail
      go_roundg (32 - (k + 1))
      case measure => omega
      case rel => exact ⟨k + 1, by omega, rfl, by rw [HR.out.2], by go_num, HN.out⟩
    · have : k = 32 := by omega
      subst this
      have HB : Hid (Below w.heap.size w wr) := hR.below
      obtain ⟨z, hz⟩ : ∃ z, z = ap F G 32 := ⟨_, rfl⟩
      rw [← hz]
      rw [← hz] at Hr
      clear hR hz
      by_cases hz0 : z = 0
      · have hzi : (z : Int) = 0 := by omega
        have e : r = true := by rw [Hr.out]; simp [hz0]
        subst e
        go_wp2_with fail
        go_ret
        exact ⟨rfl, HB.out⟩
      · have hzi : ¬ (z : Int) = 0 := by omega
        have hze : ((z : Int) == 0) = false := by simpa using hzi
        have e : r = false := by rw [Hr.out]; simp [hz0]
        subst e
        go_wp2_with fail
        go_ret
        exact ⟨rfl, HB.out⟩
end Go.Proofs.YtlhllbggnpcoaaaGreatDoor
