import Derived.Test.YtglnjacaeefddaaDoorByt
namespace Go.Proofs.YtglnjacaeefddaaDoor
open Go.RowKit

/-- the sixteen digits -/
def dig (i : Nat) : Int := if i < 10 then 48 + i else 87 + i
/-- the table lies where the program keeps it -/
def Tab (w : World) : Prop := ∀ i, i < 16 → w.cell? ⟨0, i, none⟩ = some (.int .u8 (dig i))
theorem Tab.lt {w : World} (h : Tab w) : 0 < w.heap.size := World.block_lt_of_cell? _ _ (h 0 (by omega))
theorem Tab.below {w w' : World} (h : Tab w) {B : Nat} (hb : Below B w w') (hB : 0 < B) : Tab w' := fun i hi => (hb.cell (p := ⟨0, i, none⟩) hB).trans (h i hi)
theorem Tab.drewN {w : World} (h : Tab w) (q : Nat) : Tab (w.drewN q) := fun i hi => by simpa using h i hi

/-- is it one of the sixteen? -/
def IsDig (c : Int) : Prop := (48 ≤ c ∧ c ≤ 57) ∨ (97 ≤ c ∧ c ≤ 102)
def val (c : Int) : Int := if c ≤ 57 then c - 48 else c - 87

theorem dig_val (k : Nat) (hk : k < 16) : IsDig (dig k) ∧ val (dig k) = k := by
  unfold dig IsDig val
  split
  · exact ⟨by omega, by rw [if_pos (by omega)]; omega⟩
  · exact ⟨by omega, by rw [if_neg (by omega)]; omega⟩
theorem dig_bd (k : Nat) (hk : k < 16) : 0 ≤ dig k ∧ dig k ≤ 255 := by unfold dig; split <;> omega
theorem val_dig (c : Int) (h : IsDig c) : 0 ≤ val c ∧ val c < 16 ∧ dig (val c).toNat = c := by
  unfold IsDig at h
  unfold val dig
  split
  · refine ⟨by omega, by omega, ?_⟩; rw [if_pos (by omega)]; omega
  · refine ⟨by omega, by omega, ?_⟩; rw [if_neg (by omega)]; omega

set_option maxHeartbeats 400000 in
theorem digit_any (w : World) (c : Int) (hT : Tab w) :
    Calls Tryd.prog 27 #[.int .u8 c] w fun e w' => w' = w ∧ ((IsDig c ∧ e = .returned (.tuple #[.int .u8 (val c), .bool true])) ∨ (¬ IsDig c ∧ e = .returned (.tuple #[.int .u8 0, .bool false]))) := by
  go_enter Tryd.func27, Tryd.ntmps27
  go_wp2
  go_loopg [5] 16 (fun g i wr => ∃ k : Nat, k ≤ 16 ∧ g = 16 - k ∧ i = .int .i64 k ∧ (∀ i, i < k → dig i ≠ c) ∧ wr = w)
  case atStart => exact ⟨0, Nat.zero_le _, rfl, rfl, fun i hi => absurd hi (by omega), rfl⟩
  case round =>
    obtain ⟨k, hk, rfl, rfl, hs, rfl⟩ := hrel
    have HS : Hid (∀ i, i < k → dig i ≠ c) := hs
    clear hs
    by_cases hkn : k < 16
    · have c1 := hT k hkn
      clear hT
      by_cases e : dig k = c
      · have e' : (dig k == c) = true := by simpa using e
        have HE : Hid (dig k = c) := e
        clear e
        go_wp2
        go_ret2
        have hv := dig_val k hkn
        rw [HE.out] at hv
        refine ⟨rfl, Or.inl ⟨hv.1, ?_⟩⟩
        rw [hv.2]
        rfl
      · have e' : (dig k == c) = false := by simpa using e
        go_wp2
        go_roundg (16 - (k + 1))
        case measure => omega
        case rel => exact ⟨k + 1, by omega, rfl, by go_num, fun i hi => by by_cases ee : i = k; (subst ee; exact e); exact HS.out i (by omega), rfl⟩
    · have : k = 16 := by omega
      subst this
      go_wp2
      go_ret2
      refine ⟨rfl, Or.inr ⟨fun hd => ?_, rfl⟩⟩
      have := val_dig c hd
      exact HS.out (val c).toNat (by omega) this.2.2

end Go.Proofs.YtglnjacaeefddaaDoor
