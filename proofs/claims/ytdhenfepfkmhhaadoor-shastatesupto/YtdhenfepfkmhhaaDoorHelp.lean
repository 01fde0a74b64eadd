/-
  The laws' own helpers: a copy with marks, two lists that are alike, parts one behind the other.
-/
import Derived.Test.YtdhenfepfkmhhaaDoorRSum
import Derived.Test.YtdhenfepfkmhhaaDoorAwake
namespace Go.Proofs.YtdhenfepfkmhhaaDoor
open Go.RowKit

/-- what a value that owns a row of bytes is good for -/
theorem view_own2 {w' : World} {B : Nat} {v : Value} {n : Nat} {Y : Nat → Int} (h : w'.ownsRow B 5 1 v n (vals Y n)) (hb : ∀ i, i < n → 0 ≤ Y i ∧ Y i ≤ 255) (hn : n ≤ 281474976710656) :
    ∃ a g c, v = .slice a n c ∧ View w' a g 0 n Y ∧ n ≤ c ∧ (a = none → c = 0) ∧ (0 < n → B ≤ g) := by
  rcases h.2 with ⟨rfl, h0⟩ | ⟨g, cap, cur, rfl, hlt, hcs⟩
  · subst h0
    exact ⟨none, 0, 0, rfl, view_empty _ _ _ _ _ _ rfl, by omega, fun _ => rfl, fun h => absurd h (by omega)⟩
  · refine ⟨some ⟨g, 0, none⟩, g, cap, rfl, ⟨fun _ => rfl, fun i hi => ?_, hb, hn⟩, hcs.2.1, (fun h => by cases h), fun _ => hlt⟩
    rw [Nat.zero_add, h.cellAt i (by omega)]
    simp [vals, hi]

/-- bytes with two marks behind them -/
def rm (n : Nat) (Z : Nat → Int) (i : Nat) : Int := if i < n then Z i else if i = n then 90 else 165
theorem rm_low {n : Nat} {Z : Nat → Int} {i : Nat} (h : i < n) : rm n Z i = Z i := by unfold rm; rw [if_pos h]
theorem rm_0 (n : Nat) (Z : Nat → Int) : rm n Z n = 90 := by unfold rm; rw [if_neg (by omega), if_pos rfl]
theorem rm_1 (n : Nat) (Z : Nat → Int) : rm n Z (n + 1) = 165 := by unfold rm; rw [if_neg (by omega), if_neg (by omega)]
theorem rm_bd {n : Nat} {Z : Nat → Int} (h : ∀ i, i < n → 0 ≤ Z i ∧ Z i ≤ 255) (i : Nat) : 0 ≤ rm n Z i ∧ rm n Z i ≤ 255 := by
  unfold rm
  split
  · exact h i (by assumption)
  · split <;> omega
theorem view_new2 (w : World) (x y : Int) (h0 : 0 ≤ x ∧ x ≤ 255) (h1 : 0 ≤ y ∧ y ≤ 255) : View (w.alloc (.cells #[.int .u8 x, .int .u8 y] 5)) (some ⟨w.heap.size, 0, none⟩) w.heap.size 0 2 (fun i => if i = 0 then x else y) := by
  refine ⟨fun _ => rfl, fun i hi => ?_, fun i _ => by show 0 ≤ (if i = 0 then x else y) ∧ (if i = 0 then x else y) ≤ 255; split <;> omega, by omega⟩
  rw [cell_of_row _ _ _ _ 5 _ (heap_alloc_new w _)]
  have : i = 0 ∨ i = 1 := by omega
  rcases this with rfl | rfl <;> rfl
theorem vals2 (x y : Int) : vals (fun i => if i = 0 then x else y) 2 = [.int .u8 x, .int .u8 y] := rfl

set_option maxRecDepth 100000 in
set_option maxHeartbeats 1600000 in
theorem copied_any (w : World) (a : Option Addr) (b off n c : Nat) (Z : Nat → Int) (hv : View w a b off n Z) (hnil : a = none → c = 0) (hn : n ≤ 1099511627776) :
    Calls Tryd.prog 17 #[.slice a n c] w fun e w' => ∃ g cap, e = .returned (.tuple #[.slice (some ⟨g, 0, none⟩) n cap, .slice (some ⟨g, 0, none⟩) (n + 2) cap]) ∧
      w'.ownsRow w.heap.size 5 1 (.slice (some ⟨g, 0, none⟩) (n + 2) cap) (n + 2) (vals (rm n Z) (n + 2)) ∧ n + 2 ≤ cap ∧ w.heap.size ≤ g ∧ g < w'.heap.size ∧ Below w.heap.size w w' := by
  have own0 := World.ownsRow_lit (base := w.heap.size) (e := 5) (size := 1) w #[] 0 (Nat.le_refl _) (by decide) rfl
  have v0 : View (w.alloc (.cells #[] 5)) a b off n Z := hv.below ((Below.refl _ _).alloc (Nat.le_refl _) _)
  have HV0 : Hid (View (w.alloc (.cells #[] 5)) a b off n Z) := v0
  clear hv v0
  go_enter Tryd.func17, Tryd.ntmps17
  go_wp2_with (refine wpList_append_bytes (by rfl) (.tmp 5) (.tmp 6) (by rfl) w.heap.size _ 0 [] (by rfl) own0 a b off n c _ (by rfl) HV0.out hnil (by omega) (by simp) ?_)
  intro v1 w1 own1 gr1 nn1
  have b1 : Below w.heap.size w w1 := ((Below.refl _ _).alloc (Nat.le_refl _) _).trans (grown_below gr1 own0 (Nat.le_refl _) (by simp))
  replace own1 : w1.ownsRow w.heap.size 5 1 v1 n (vals (rm n Z) n) := by
    rw [vals_congr (fun i hi => rm_low hi)]
    simpa using own1
  clear own0 gr1 nn1 HV0
  have s1 := b1.size
  go_wp2_with (refine wpList_append_bytes (by rfl) (.tmp 8) (.tmp 9) (by rfl) w.heap.size _ n _ (by rfl) (own1.alloc _) (some ⟨w1.heap.size, 0, none⟩) w1.heap.size 0 2 2 _ (by rfl) (view_new2 w1 90 165 (by decide) (by decide)) (fun h => by cases h) (by omega) (by simp; omega) ?_)
  intro v2 w2 own2 gr2 nn2
  have b2 : Below w.heap.size w w2 := (b1.alloc s1 _).trans (grown_below gr2 (own1.alloc _) (Nat.le_refl _) (by simp; omega))
  replace own2 : w2.ownsRow w.heap.size 5 1 v2 (n + 2) (vals (rm n Z) (n + 2)) := by
    rw [← vals_two, rm_0, rm_1]
    exact own2
  clear own1 gr2 nn2 b1 s1
  obtain ⟨g, cap, rfl, hcap, hB, hg⟩ := own_slice own2 (by omega)
  have q1 : (n : Int) ≤ (cap : Int) := by omega
  have q2 : (0 : Int) ≤ (n : Int) := by omega
  have HO : Hid (w2.ownsRow w.heap.size 5 1 (.slice (some ⟨g, 0, none⟩) (n + 2) cap) (n + 2) (vals (rm n Z) (n + 2)) ∧ Below w.heap.size w w2) := ⟨own2, b2⟩
  clear own2 b2
  go_wp2_with fail
  go_ret2
  exact ⟨g, cap, rfl, HO.out.1, hcap, hB, hg, HO.out.2⟩

set_option maxRecDepth 100000 in
set_option maxHeartbeats 1600000 in
theorem same_yes (w : World) (a a' : Option Addr) (b off n c b' off' c' : Nat) (Z : Nat → Int) (h : View w a b off n Z) (h' : View w a' b' off' n Z) :
    Calls Tryd.prog 20 #[.slice a n c, .slice a' n c'] w fun e w' => e = .returned (.bool true) ∧ ∃ q, w' = w.drewN q := by
  have HV : Hid (View w a b off n Z ∧ View w a' b' off' n Z) := ⟨h, h'⟩
  have ln := h.len
  clear h h'
  go_enter Tryd.func20, Tryd.ntmps20
  go_wp2_with fail
  go_loopg [5] n (fun g i wr => ∃ k : Nat, k ≤ n ∧ g = n - k ∧ i = .int .i64 k ∧ ∃ q, wr = w.drewN q)
  case atStart => exact ⟨0, by omega, rfl, rfl, 0, rfl⟩
  case round =>
    obtain ⟨k, hk, rfl, rfl, hq⟩ := hrel
    by_cases hkn : k < n
    · have v1 : View wr a b off n Z := by obtain ⟨q, rfl⟩ := hq; exact HV.out.1.drewN q
      have v2 : View wr a' b' off' n Z := by obtain ⟨q, rfl⟩ := hq; exact HV.out.2.drewN q
      obtain rfl := v1.at_ (by omega)
      obtain rfl := v2.at_ (by omega)
      have c1 := v1.cell k hkn
      have c2 := v2.cell k hkn
      obtain ⟨z, hz⟩ : ∃ z, z = Z k := ⟨_, rfl⟩
      rw [← hz] at c1 c2
      have HQ : Hid (∃ q, wr = w.drewN q) := hq
      clear hq v1 v2 hz
      go_wp2_with fail
      go_quiet (fail)
      have HN : Hid (∃ q, wr.drewN nq = w.drewN q) := by
        obtain ⟨q, rfl⟩ := HQ.out
        exact ⟨q + nq, by simp⟩
      clear HQ c1 c2
      go_wp2_with fail
      go_roundg (n - (k + 1))
      case measure => omega
      case rel => exact ⟨k + 1, by omega, rfl, by go_num, HN.out⟩
    · have HQ : Hid (∃ q, wr = w.drewN q) := hq
      clear hq
      have k1 : n ≤ k := by omega
      go_wp2_with fail
      go_ret
      exact ⟨rfl, HQ.out⟩

/-- the bytes of the first k parts -/
def jz (m : Nat → Nat) (Y : Nat → Nat → Nat) (k : Nat) (i : Nat) : Int := ((jn m Y k i : Nat) : Int)
set_option maxRecDepth 100000 in
set_option maxHeartbeats 1600000 in
theorem join_any (w : World) (pa : Option Addr) (pb po k cap : Nat) (A : Nat → Option Addr) (b off m c : Nat → Nat) (Y : Nat → Nat → Nat) (h : Parts w pa pb po k A b off m c Y) (hnil : ∀ i, i < k → A i = none → c i = 0) (hk : k ≤ 1099511627776) (hlen : tot m k ≤ 1099511627776) :
    Calls Tryd.prog 19 #[.slice pa k cap] w fun e w' => ∃ v, e = .returned v ∧ w'.ownsRow w.heap.size 5 1 v (tot m k) (vals (jz m Y k) (tot m k)) ∧ Below w.heap.size w w' := by
  have HP : Hid (Parts w pa pb po k A b off m c Y) := h
  clear h
  go_enter Tryd.func19, Tryd.ntmps19
  go_wp2_with fail
  go_loopg [3, 4] k (fun g v i wr => ∃ j : Nat, j ≤ k ∧ g = k - j ∧ i = .int .i64 j ∧ wr.ownsRow w.heap.size 5 1 v (tot m j) (vals (jz m Y j) (tot m j)) ∧ Below w.heap.size w wr)
  case atStart => exact ⟨0, by omega, rfl, rfl, World.ownsRow_nil _ _ _ _, Below.refl _ _⟩
  case round =>
    obtain ⟨j, hj, rfl, rfl, own1, b1⟩ := hrel
    have s1 := b1.size
    by_cases hjk : j < k
    · obtain rfl := HP.out.at_ (by omega)
      have cj : wr.cell? ⟨pb, po + j, none⟩ = some (.slice (A j) (m j) (c j)) := (HP.out.below b1).cell j hjk
      have vj : View wr (A j) (b j) (off j) (m j) (fun t => (Y j t : Int)) := (HP.out.below b1).view j hjk
      have tm := tot_mono m (show j + 1 ≤ k by omega)
      have HVj : Hid (View wr (A j) (b j) (off j) (m j) (fun t => (Y j t : Int))) := vj
      have lj : tot m j + m j ≤ 1099511627776 := by simp only [tot] at tm; omega
      have hnj := hnil j hjk
      clear vj tm
      go_wp2_with (refine wpList_append_bytes (by rfl) (.tmp 11) (.tmp 15) (by rfl) w.heap.size _ (tot m j) _ (by rfl) own1 (A j) (b j) (off j) (m j) (c j) _ (by rfl) HVj.out hnj (by omega) s1 ?_)
      intro v2 w2 own2 gr2 nn2
      have b2 : Below w.heap.size w w2 := b1.trans (grown_below gr2 own1 (Nat.le_refl _) s1)
      replace own2 : w2.ownsRow w.heap.size 5 1 v2 (tot m (j + 1)) (vals (jz m Y (j + 1)) (tot m (j + 1))) := by
        have e : vals (jz m Y (j + 1)) (tot m (j + 1)) = vals (jz m Y j) (tot m j) ++ vals (fun t => (Y j t : Int)) (m j) := by
          have e1 := vals_app (jz m Y (j + 1)) (tot m j) (m j) (fun t => (Y j t : Int)) (fun i hi => by
            unfold jz
            simp only [jn]
            unfold cat
            rw [if_neg (by omega), show tot m j + i - tot m j = i by omega])
          rw [show tot m (j + 1) = tot m j + m j from rfl, ← e1]
          congr 1
          refine vals_congr (fun i hi => ?_)
          unfold jz
          simp only [jn]
          unfold cat
          rw [if_pos hi]
        rw [e]
        exact own2
      clear own1 gr2 nn2 b1 cj
      go_wp2_with fail
      go_roundg (k - (j + 1))
      case measure => omega
      case rel => exact ⟨j + 1, by omega, rfl, by go_num, own2, b2⟩
    · have : j = k := by omega
      subst this
      go_wp2_with fail
      go_ret
      exact ⟨_, rfl, own1, b1⟩
end Go.Proofs.YtdhenfepfkmhhaaDoor
