import Derived.Test.YtglnjacaeefddaaDoorDig
namespace Go.Proofs.YtglnjacaeefddaaDoor
open Go.RowKit

/-- a text's byte -/
def sv (s : ByteArray) (i : Nat) : Int := ((s.data[i]?.getD 0).toNat : Int)
theorem sv_at (s : ByteArray) (i : Nat) (h : i < s.size) : ((s[i]'h).toNat : Int) = sv s i := by
  have e : s.data[i]? = some (s[i]'h) := Array.getElem?_eq_getElem h
  unfold sv
  rw [e]
  rfl
theorem sv_bd (s : ByteArray) (i : Nat) : 0 ≤ sv s i ∧ sv s i ≤ 255 := by
  unfold sv
  have := (s.data[i]?.getD 0).toNat_lt
  omega
def unh (s : ByteArray) (i : Nat) : Int := 16 * val (sv s (2 * i)) + val (sv s (2 * i + 1))

set_option maxHeartbeats 400000 in
theorem unhex_odd (w : World) (s : ByteArray) (hl : s.size ≤ 562949953421312) (hn : s.size % 2 = 1) :
    Calls Tryd.prog 8 #[.string s] w fun e w' => e = .returned (.tuple #[.slice none 0 0, .int .i64 10]) ∧ w' = w := by
  have e1 : ((s.size : Int) % 2 != 0) = true := by simp; omega
  go_enter Tryd.func8, Tryd.ntmps8
  go_wp2
  go_ret2
  exact ⟨rfl, rfl⟩

theorem unh_step {w wr : World} {N k : Nat} {s : ByteArray} (hR : NewRow w wr N (fun i => if i < k then unh s i else 0)) {v : Int} (hv : v = unh s k) :
    NewRow w (wr.setCell ⟨w.heap.size, k, none⟩ (.int .u8 v)) N (fun i => if i < k + 1 then unh s i else 0) := by
  subst hv
  refine (hR.set k (unh s k)).congr (fun i _ => ?_)
  by_cases e1 : i = k
  · subst e1
    rw [if_pos rfl, if_pos (by omega)]
  · rw [if_neg e1]
    by_cases e3 : i < k
    · rw [if_pos e3, if_pos (by omega)]
    · rw [if_neg e3, if_neg (by omega)]

set_option maxHeartbeats 800000 in
theorem unhex_even (w : World) (s : ByteArray) (m : Nat) (hT : Tab w) (hl : s.size ≤ 562949953421312) (hn : s.size = 2 * m) :
    Calls Tryd.prog 8 #[.string s] w fun e w' => ((∀ i, i < s.size → IsDig (sv s i)) ∧ e = .returned (.tuple #[.slice (some ⟨w.heap.size, 0, none⟩) m m, .int .i64 0]) ∧ NewRow w w' m (unh s)) ∨
      ((∃ i, i < s.size ∧ ¬ IsDig (sv s i)) ∧ e = .returned (.tuple #[.slice none 0 0, .int .i64 10]) ∧ Below w.heap.size w w') := by
  have hmk := run_make_row' (P := Tryd.prog) 22 5 (.int .u8 0) 1 Tryd.underlying22 Tryd.info5 rfl .i64 .i64 m (by omega) (by omega)
  have hm2 : (s.size : Int) / 2 = m := by omega
  have e1 : ((s.size : Int) % 2 != 0) = false := by simp; omega
  have hn1 : s.size ≤ 2 * m := by omega
  have hn2 : 2 * m ≤ s.size := by omega
  clear hn
  go_enter Tryd.func8, Tryd.ntmps8
  go_wp2
  clear hmk hm2 e1
  go_loopg [20] m (fun g i wr => ∃ k : Nat, k ≤ m ∧ g = m - k ∧ i = .int .i64 k ∧ (∀ i, i < 2 * k → IsDig (sv s i)) ∧ NewRow w wr m (fun i => if i < k then unh s i else 0))
  case atStart => exact ⟨0, Nat.zero_le _, rfl, rfl, fun i hi => absurd hi (by omega), (NewRow.made w _).congr (fun i _ => by simp)⟩
  case round =>
    obtain ⟨k, hk, rfl, rfl, hs, hR⟩ := hrel
    have HS : Hid (∀ i, i < 2 * k → IsDig (sv s i)) := hs
    clear hs
    by_cases hkn : k < m
    · have hT' := hT.below hR.below hT.lt
      have s1 := hR.row.cell (i := k) (by omega)
      have f1 := hR.row.frozen k
      have HT : Hid (Tab wr) := hT'
      have i1 : 2 * (k : Int) < (s.size : Int) := by omega
      have i2 : 2 * (k : Int) + 1 < (s.size : Int) := by omega
      have j1 : 2 * k < s.size := by omega
      have j2 : 2 * k + 1 < s.size := by omega
      have R := fun v (hv : v = unh s k) => unh_step hR hv
      have HR : Hid (∀ v, v = unh s k → NewRow w (wr.setCell ⟨w.heap.size, k, none⟩ (.int .u8 v)) m (fun i => if i < k + 1 then unh s i else 0)) := R
      clear hT' hT R
      go_wp2_with fail
      refine (digit_any _ _ HT.out).mono ?_
      rintro e w' ⟨rfl, ⟨d1, rfl⟩ | ⟨d1, rfl⟩⟩
      · obtain ⟨v1, v2, _⟩ := val_dig _ d1
        have D1 : Hid (IsDig ((s[2 * k]'j1).toNat : Int)) := d1
        clear d1
        go_wp2_with fail
        refine (digit_any _ _ HT.out).mono ?_
        rintro e w' ⟨rfl, ⟨d2, rfl⟩ | ⟨d2, rfl⟩⟩
        · obtain ⟨v3, v4, _⟩ := val_dig _ d2
          have D2 : Hid (IsDig ((s[2 * k + 1]'j2).toNat : Int)) := d2
          clear d2
          go_wp2
          go_roundg (m - (k + 1))
          case measure => omega
          case rel =>
            have D1' := D1.out
            have D2' := D2.out
            rw [sv_at] at D1' D2'
            refine ⟨k + 1, by omega, rfl, by go_num, fun i hi => ?_, HR.out _ ?_⟩
            · by_cases ee : i = 2 * k
              · subst ee; exact D1'
              · by_cases e3 : i = 2 * k + 1
                · subst e3; exact D2'
                · exact HS.out i (by omega)
            · unfold unh
              rw [← sv_at s _ j1, ← sv_at s _ j2]
        · go_wp2
          go_ret2
          exact Or.inr ⟨⟨2 * k + 1, by omega, by rw [← sv_at s _ j2]; exact d2⟩, rfl, hR.below⟩
      · go_wp2_with fail
        refine (digit_any _ _ HT.out).mono ?_
        rintro e w' ⟨rfl, ⟨d2, rfl⟩ | ⟨d2, rfl⟩⟩
        all_goals
          go_wp2
          go_ret2
          exact Or.inr ⟨⟨2 * k, by omega, by rw [← sv_at s _ j1]; exact d1⟩, rfl, hR.below⟩
    · have : k = m := by omega
      subst this
      go_wp2
      go_ret2
      exact Or.inl ⟨fun i hi => HS.out i (by omega), rfl, hR.congr (fun i hi => by rw [if_pos hi])⟩

end Go.Proofs.YtglnjacaeefddaaDoor
