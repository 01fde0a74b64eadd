import Derived.Test.YtglnjacaeefddaaDoorWhole
import Derived.Deep.RegionHeld3
namespace Go.Proofs.YtglnjacaeefddaaDoor
open Go.RowKit

/-- the first j of a row as values -/
def vals (Y : Nat → Int) (j : Nat) : List Value := (List.range j).map (fun i => Value.int .u8 (Y i))
theorem vals_length (Y : Nat → Int) (j : Nat) : (vals Y j).length = j := by simp [vals]
theorem vals_succ (Y : Nat → Int) (j : Nat) : vals Y j ++ [.int .u8 (Y j)] = vals Y (j + 1) := by
  unfold vals
  rw [List.range_succ]
  simp
theorem vals_two (Y : Nat → Int) (j : Nat) : vals Y j ++ [.int .u8 (Y j), .int .u8 (Y (j + 1))] = vals Y (j + 2) := by
  rw [show j + 2 = (j + 1) + 1 by omega, ← vals_succ Y (j + 1), ← vals_succ Y j]
  simp

/-- what a value that owns a row of bytes is good for -/
theorem view_own {w w' : World} {B : Nat} {v : Value} {n : Nat} {Y : Nat → Int} (h : w'.ownsRow B 5 1 v n (vals Y n)) (hb : ∀ i, i < n → 0 ≤ Y i ∧ Y i ≤ 255) (hn : n ≤ 281474976710656) (_ : Below w.heap.size w w') :
    ∃ a g c, v = .slice a n c ∧ View w' a g 0 n Y ∧ (a = none → c = 0) := by
  rcases h.2 with ⟨rfl, h0⟩ | ⟨g, cap, cur, rfl, _, _, _⟩
  · subst h0
    exact ⟨none, 0, 0, rfl, ⟨fun h => absurd h (by omega), fun i h => absurd h (by omega), fun i h => absurd h (by omega), by omega⟩, fun _ => rfl⟩
  · refine ⟨some ⟨g, 0, none⟩, g, cap, rfl, ⟨fun _ => rfl, fun i hi => ?_, hb, hn⟩, fun h => by cases h⟩
    rw [Nat.zero_add, h.cellAt i (by omega)]
    simp [vals, hi]

set_option maxRecDepth 100000 in
set_option maxHeartbeats 1600000 in
theorem rnibbles_own (w : World) (a : Option Addr) (b off n c : Nat) (Z : Nat → Int) (h : View w a b off n Z) (hn : n ≤ 1048576) :
    Calls Tryd.prog 18 #[.slice a n c] w fun e w' => ∃ v, e = .returned v ∧ w'.ownsRow w.heap.size 5 1 v (2 * n) (vals (nib Z) (2 * n)) ∧ Below w.heap.size w w' := by
  obtain ⟨i0, hi0, hz0, hz1, hz2⟩ := info_parts Tryd.info5
  have HV : Hid (View w a b off n Z) := h
  clear h
  go_enter Tryd.func18, Tryd.ntmps18
  go_wp2
  go_loopg [3, 4] n (fun g v i wr => ∃ k : Nat, k ≤ n ∧ g = n - k ∧ i = .int .i64 k ∧ wr.ownsRow w.heap.size 5 1 v (2 * k) (vals (nib Z) (2 * k)) ∧ Below w.heap.size w wr)
  case atStart => exact ⟨0, Nat.zero_le _, rfl, rfl, World.ownsRow_nil _ _ _ _, Below.refl _ _⟩
  case round =>
    obtain ⟨k, hk, rfl, rfl, hown, hbel⟩ := hrel
    have hsz := hbel.size
    by_cases hkn : k < n
    · obtain rfl := HV.out.at_ (by omega)
      have hlt := HV.out.lt (by omega)
      have c1 : wr.cell? ⟨b, off + k, none⟩ = some (.int .u8 (Z k)) := (hbel.cell (p := ⟨b, off + k, none⟩) hlt).trans (HV.out.cell k hkn)
      obtain ⟨b1, b2⟩ := HV.out.bd k hkn
      have i1 : (k : Int) < (n : Int) := by omega
      have i0' : (0 : Int) ≤ (k : Int) := by omega
      have q1 := u8_quo (Z k) b1 b2
      have q2 := u8_rem (Z k) b1 b2
      have q5 : (Z k).tmod 16 = Z k % 16 := Int.tmod_eq_emod_of_nonneg b1
      have e1 : nib Z (2 * k) = Z k / 16 := by unfold nib; rw [if_pos (by omega), show 2 * k / 2 = k by omega]
      have e2 : nib Z (2 * k + 1) = Z k % 16 := by unfold nib; rw [if_neg (by omega), show (2 * k + 1) / 2 = k by omega]
      have hv := vals_two (nib Z) (2 * k)
      rw [e1, e2] at hv
      have HVT : Hid (vals (nib Z) (2 * k) ++ [.int .u8 (Z k / 16), .int .u8 (Z k % 16)] = vals (nib Z) (2 * k + 2)) := hv
      clear hv e1 e2
      have hne : ∀ v, wr.ownsRow w.heap.size 5 1 v (2 * k) (vals (nib Z) (2 * k)) → v.ownBlock ≠ some b := fun v ho e => by have := (ho.lt b e).1; omega
      have ag := hne _ hown
      clear hne
      go_wp2
      go_region_held3 (fun w' => w'.cell? ⟨b, off + k, none⟩ = some (.int .u8 (Z k)))
        (first
          | go_keep
          | (rw [hgrow.cell_far _ (by simp; omega) (Ne.symm ag), World.cell?_drew, World.cell?_alloc_old _ _ _ (by show b ≠ wr.heap.size; omega)]; exact c1))
        ((refine step_append_lies _ (by rfl) _ _ _ (by rfl) w.heap.size 5 i0 _ 1 1 Tryd.underlying22 hi0 hz0 hz1 hz2 rfl (by omega) _ (2 * k) _ (by rfl) ((hown.alloc _).drew) ⟨wr.heap.size, 0, none⟩ 2 2 [.int .u8 (Z k / 16), .int .u8 (Z k % 16)] (by rfl) (by rfl) (World.news_of_block (cs := #[.int .u8 (Z k / 16), .int .u8 (Z k % 16)]) (t := 5) (fr := (0, 0)) (heap_alloc_new wr _)) (by simp [Value.oneCell']) (by omega) (by unfold maxLen; omega) (by omega) (by simp; omega) (wr.heap.size + 1) (by simp) ?_; intro gg cap w1 hown1 hgrow hat hlt1))
      have hbel1 : Below w.heap.size w w1 := ((hbel.alloc hsz _).drew).grown hgrow (by simp; omega) (fun j hj => (hown.lt j hj).1)
      rw [HVT.out] at hown1
      clear hgrow hat hlt1 hown
      go_wp2
      go_roundg (n - (k + 1))
      case measure => omega
      case rel => exact ⟨k + 1, by omega, rfl, by go_num, by rw [show 2 * (k + 1) = 2 * k + 2 by omega]; exact hown1, hbel1⟩
    · have : k = n := by omega
      subst this
      go_wp2
      go_ret
      exact ⟨_, rfl, hown, hbel⟩

end Go.Proofs.YtglnjacaeefddaaDoor
