import Derived.Test.YtglnjacaeefddaaDoorNib
namespace Go.Proofs.YtglnjacaeefddaaDoor
open Go.RowKit

/-- the bytes of nibbles -/
def join (Z : Nat → Int) (i : Nat) : Int := 16 * Z (2 * i) + Z (2 * i + 1)

set_option maxHeartbeats 400000 in
theorem bytes_odd (w : World) (a : Option Addr) (n c : Nat) (hl : n ≤ 281474976710656) (hn : n % 2 = 1) :
    Calls Tryd.prog 7 #[.slice a n c] w fun e w' => e = .returned (.tuple #[.slice none 0 0, .int .i64 2]) ∧ w' = w := by
  have e1 : ((n : Int) % 2 != 0) = true := by simp; omega
  go_enter Tryd.func7, Tryd.ntmps7
  go_wp2
  go_ret2
  exact ⟨rfl, rfl⟩

theorem join_step {w wr : World} {N k : Nat} {Z : Nat → Int} (hR : NewRow w wr N (fun i => if i < k then join Z i else 0)) {v : Int} (hv : v = join Z k) :
    NewRow w (wr.setCell ⟨w.heap.size, k, none⟩ (.int .u8 v)) N (fun i => if i < k + 1 then join Z i else 0) := by
  subst hv
  refine (hR.set k (join Z k)).congr (fun i _ => ?_)
  by_cases e1 : i = k
  · subst e1
    rw [if_pos rfl, if_pos (by omega)]
  · rw [if_neg e1]
    by_cases e3 : i < k
    · rw [if_pos e3, if_pos (by omega)]
    · rw [if_neg e3, if_neg (by omega)]

set_option maxHeartbeats 800000 in
theorem bytes_even (w : World) (a : Option Addr) (b off m n c : Nat) (Z : Nat → Int) (h : View w a b off n Z) (hn : n = 2 * m) :
    Calls Tryd.prog 7 #[.slice a n c] w fun e w' => ((∀ i, i < n → Z i ≤ 15) ∧ e = .returned (.tuple #[.slice (some ⟨w.heap.size, 0, none⟩) m m, .int .i64 0]) ∧ NewRow w w' m (join Z)) ∨
      ((∃ i, i < n ∧ 15 < Z i) ∧ e = .returned (.tuple #[.slice none 0 0, .int .i64 2]) ∧ Below w.heap.size w w') := by
  have hl := h.len
  have hmk := run_make_row' (P := Tryd.prog) 22 5 (.int .u8 0) 1 Tryd.underlying22 Tryd.info5 rfl .i64 .i64 m (by omega) (by omega)
  have hm2 : (n : Int) / 2 = m := by omega
  have e1 : ((n : Int) % 2 != 0) = false := by simp; omega
  have hn1 : n ≤ 2 * m := by omega
  have hn2 : 2 * m ≤ n := by omega
  clear hn
  go_enter Tryd.func7, Tryd.ntmps7
  go_wp2
  clear hmk hm2 e1
  go_loopg [18] m (fun g i wr => ∃ k : Nat, k ≤ m ∧ g = m - k ∧ i = .int .i64 k ∧ (∀ i, i < 2 * k → Z i ≤ 15) ∧ NewRow w wr m (fun i => if i < k then join Z i else 0))
  case atStart => exact ⟨0, Nat.zero_le _, rfl, rfl, fun i hi => absurd hi (by omega), (NewRow.made w _).congr (fun i _ => by simp)⟩
  case round =>
    obtain ⟨k, hk, rfl, rfl, hs, hR⟩ := hrel
    have HS : Hid (∀ i, i < 2 * k → Z i ≤ 15) := hs
    clear hs
    by_cases hkn : k < m
    · obtain rfl := h.at_ (by omega)
      have hb := h.lt (by omega)
      have c1 : wr.cell? ⟨b, off + 2 * k, none⟩ = some (.int .u8 (Z (2 * k))) := (hR.below.cell (p := ⟨b, off + 2 * k, none⟩) hb).trans (h.cell (2 * k) (by omega))
      have c2 : wr.cell? ⟨b, off + (2 * k + 1), none⟩ = some (.int .u8 (Z (2 * k + 1))) := (hR.below.cell (p := ⟨b, off + (2 * k + 1), none⟩) hb).trans (h.cell (2 * k + 1) (by omega))
      have bd1 := h.bd (2 * k) (by omega)
      have bd2 := h.bd (2 * k + 1) (by omega)
      have s1 := hR.row.cell (i := k) (by omega)
      have f1 := hR.row.frozen k
      have i1 : 2 * (k : Int) < (n : Int) := by omega
      have i2 : 2 * (k : Int) + 1 < (n : Int) := by omega
      clear h
      by_cases e1 : 15 < Z (2 * k)
      · go_wp2
        go_quiet (fail)
        go_wp2
        go_ret2
        exact Or.inr ⟨⟨2 * k, by omega, e1⟩, rfl, below_drewN hR.below _⟩
      · have e1' : Z (2 * k) ≤ 15 := by omega
        clear e1
        by_cases e2 : 15 < Z (2 * k + 1)
        · go_wp2
          go_quiet (fail)
          go_wp2
          go_ret2
          exact Or.inr ⟨⟨2 * k + 1, by omega, e2⟩, rfl, below_drewN hR.below _⟩
        · have e2' : Z (2 * k + 1) ≤ 15 := by omega
          clear e2
          have R := fun v (hv : v = join Z k) => join_step hR hv
          go_wp2
          go_quiet (fail)
          go_wp2
          go_roundg (m - (k + 1))
          case measure => omega
          case rel => exact ⟨k + 1, by omega, rfl, by go_num, fun i hi => by by_cases ee : i = 2 * k; (subst ee; exact e1'); (by_cases e3 : i = 2 * k + 1; (subst e3; exact e2'); exact HS.out i (by omega)), (R _ rfl).drewN _⟩
    · have : k = m := by omega
      subst this
      go_wp2
      go_ret2
      exact Or.inl ⟨fun i hi => HS.out i (by omega), rfl, hR.congr (fun i hi => by rw [if_pos hi])⟩

end Go.Proofs.YtglnjacaeefddaaDoor
