/-
  MacExact: small facts for its steps.
-/
import Derived.Test.YtleabfmlokjllaaDoorExB
namespace Go.Proofs.YtleabfmlokjllaaDoor
open Go.RowKit

theorem own_view {w' : World} {B g n c : Nat} {Y : Nat → Int} (h : w'.ownsRow B 5 1 (.slice (some ⟨g, 0, none⟩) n c) n (vals Y n)) (hb : ∀ i, i < n → 0 ≤ Y i ∧ Y i ≤ 255) (hn : n ≤ 281474976710656) : View w' (some ⟨g, 0, none⟩) g 0 n Y := by
  refine ⟨fun _ => rfl, fun i hi => ?_, hb, hn⟩
  rw [Nat.zero_add, h.cellAt i (by omega)]
  simp [vals, hi]
theorem built43 (g n c : Nat) : Tryd.prog.built 43 [(0, .slice (some ⟨g, 0, none⟩) n c)] = some #[.slice (some ⟨g, 0, none⟩) n c, .slice none 0 0] := by kernel_rfl
theorem View.of_blk {w w' : World} {a : Option Addr} {b off n : Nat} {Z : Nat → Int} (h : View w a b off n Z) (hb : 0 < n → w'.heap[b]? = w.heap[b]?) : View w' a b off n Z :=
  ⟨h.at_, fun i hi => (World.cell?_of_block (w := w) (hb (by omega))).trans (h.cell i hi), h.bd, h.len⟩
theorem hmac_congr {B : Nat → Nat} {m : Nat} {X Y : Nat → Nat} (h : ∀ i, i < m → X i = Y i) : hmac B m X = hmac B m Y := by
  unfold hmac
  rw [digest_congr (n := 64 + m) (X := cat 64 (msk 54 B) X) (Y := cat 64 (msk 54 B) Y) (fun i hi => by
    unfold cat
    by_cases e : i < 64
    · rw [if_pos e, if_pos e]
    · rw [if_neg e, if_neg e, h _ (by omega)])]
/-- a list cut in two, and nothing between the two -/
theorem parts_cut {w : World} {g k n c c2 : Nat} {A2 : Option Addr} {X : Nat → Nat} (h : View w (some ⟨g, 0, none⟩) g 0 n (fun i => (X i : Int))) (hX : ∀ i, X i < 256) (hk : k ≤ n) (hc : k ≤ c) (hA : 0 < n - k → A2 = some ⟨g, k, none⟩) (hc2 : n - k ≤ c2) (t : TypeId) :
    Parts (w.alloc (.cells #[.slice (some ⟨g, 0, none⟩) k c, .slice none 0 0, .slice A2 (n - k) c2] t)) (some ⟨w.heap.size, 0, none⟩) w.heap.size 0 3 (fun i => if i = 0 then some ⟨g, 0, none⟩ else if i = 1 then none else A2) (fun _ => g) (fun i => if i = 2 then k else 0) (fun i => if i = 0 then k else if i = 1 then 0 else n - k) (fun i => if i = 0 then c else if i = 1 then 0 else c2) (fun i j => if i = 2 then X (k + j) else X j) := by
  have hb : Below w.heap.size w (w.alloc (.cells #[.slice (some ⟨g, 0, none⟩) k c, .slice none 0 0, .slice A2 (n - k) c2] t)) := (Below.refl _ _).alloc (Nat.le_refl _) _
  have ln := h.len
  refine ⟨fun _ => rfl, fun i hi => ?_, fun i hi => ?_, fun i hi => ?_, fun i j => ?_⟩
  · rw [cell_of_row _ _ _ _ t _ (heap_alloc_new w _)]
    match i, hi with
    | 0, _ => rfl
    | 1, _ => rfl
    | 2, _ => rfl
  · match i, hi with
    | 0, _ => exact View.below ⟨fun _ => rfl, fun j (hj : j < k) => h.cell j (by omega), fun j (hj : j < k) => h.bd j (by omega), (by show k ≤ _; omega)⟩ hb
    | 1, _ => exact view_empty _ _ _ _ _ _ rfl
    | 2, _ => exact View.below ⟨fun h0 => hA h0, fun j (hj : j < n - k) => (by have q := h.cell (k + j) (by omega); rw [← Nat.add_assoc, Nat.zero_add] at q; exact q), fun j (hj : j < n - k) => h.bd (k + j) (by omega), (by show n - k ≤ _; omega)⟩ hb
  · match i, hi with
    | 0, _ => exact hc
    | 1, _ => exact Nat.le_refl _
    | 2, _ => exact hc2
  · by_cases e : i = 2
    · simp only [if_pos e]
      exact hX _
    · simp only [if_neg e]
      exact hX _
theorem tot_cut (k n : Nat) (hk : k ≤ n) : tot (fun i => if i = 0 then k else if i = 1 then 0 else n - k) 3 = n := by
  simp [tot]
  omega
theorem jn_cut3 (k n : Nat) (X : Nat → Nat) : ∀ i, i < n → jn (fun i => if i = 0 then k else if i = 1 then 0 else n - k) (fun i j => if i = 2 then X (k + j) else X j) 3 i = X i := by
  intro i hi
  simp only [jn, tot, cat]
  by_cases e : i < k
  · simp [e]
  · simp [e]
    congr 1
    omega
end Go.Proofs.YtleabfmlokjllaaDoor
