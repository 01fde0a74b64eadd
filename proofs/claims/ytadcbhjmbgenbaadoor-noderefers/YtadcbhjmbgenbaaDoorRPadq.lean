import Derived.Test.YtadcbhjmbgenbaaDoorAppq
/-
  The padded message: the document's way.
-/
namespace Go.Proofs.YtadcbhjmbgenbaaDoor
open Go.RowKit

/-- the padded message -/
def pm (n : Nat) (X : Nat → Nat) (i : Nat) : Int := ((cat n X (padb n) i : Nat) : Int)
theorem pm_low {n : Nat} {X : Nat → Nat} {i : Nat} (h : i < n) : pm n X i = ((X i : Nat) : Int) := by unfold pm cat; rw [if_pos h]
theorem pm_at (n : Nat) (X : Nat → Nat) (j : Nat) : pm n X (n + j) = ((padb n j : Nat) : Int) := by unfold pm cat; rw [if_neg (by omega), show n + j - n = j by omega]
theorem pm_first (n : Nat) (X : Nat → Nat) : pm n X n = 128 := by
  have := pm_at n X 0
  rw [Nat.add_zero] at this
  rw [this]
  rfl
theorem zend_pos (n : Nat) : 1 ≤ zend n := by unfold zend; split <;> omega
theorem zend_le (n : Nat) : zend n ≤ 64 := by unfold zend; split <;> omega
theorem zend_mod (n j : Nat) (h1 : 1 ≤ j) (h2 : j ≤ zend n) : (n + j) % 64 = 56 ↔ j = zend n := by
  unfold zend at h2 ⊢
  split at h2
  · rw [if_pos (by assumption)]; omega
  · rw [if_neg (by assumption)]; omega
theorem pm_zero (n : Nat) (X : Nat → Nat) (j : Nat) (h1 : 1 ≤ j) (h2 : j < zend n) : pm n X (n + j) = 0 := by
  rw [pm_at]
  unfold padb
  rw [if_neg (by omega), if_neg (by omega)]
  rfl
theorem pm_len (n : Nat) (X : Nat → Nat) (j : Nat) (hj : j < 8) : pm n X (n + zend n + j) = (((8 * n) / 2 ^ (56 - 8 * j) % 256 : Nat) : Int) := by
  have := zend_pos n
  rw [Nat.add_assoc, pm_at]
  unfold padb
  rw [if_neg (by omega), if_pos ⟨by omega, by omega⟩, show zend n + j - zend n = j by omega]
theorem pm_bd {n : Nat} {X : Nat → Nat} (hX : ∀ i, X i < 256) (i : Nat) : 0 ≤ pm n X i ∧ pm n X i ≤ 255 := by
  have := cat_lt (n := n) hX (padb_lt n) i
  unfold pm
  omega
theorem rp_own_slice {w : World} {B e size n : Nat} {v : Value} {xs : List Value} (h : w.ownsRow B e size v n xs) (h0 : 0 < n) : ∃ g cap, v = .slice (some ⟨g, 0, none⟩) n cap ∧ n ≤ cap ∧ B ≤ g ∧ g < w.heap.size := by
  rcases h.2 with ⟨_, h1⟩ | ⟨g, cap, cur, hv, hB, hg, hc, _⟩
  · omega
  · have := h.lt g (by rw [hv]; rfl)
    exact ⟨g, cap, hv, hc, hB, this.2⟩

set_option maxRecDepth 100000 in
set_option maxHeartbeats 1600000 in
theorem padded_any (w : World) (a : Option Addr) (b off n c : Nat) (X : Nat → Nat) (hv : View w a b off n (fun i => (X i : Int))) (hX : ∀ i, X i < 256) (hnil : a = none → c = 0) (hn : n ≤ 140737488355200) :
    Calls Tryd.prog 26 #[.slice a n c] w fun e w' => ∃ g cap, e = .returned (.slice (some ⟨g, 0, none⟩) (n + zend n + 8) cap) ∧ View w' (some ⟨g, 0, none⟩) g 0 (n + zend n + 8) (pm n X) ∧ n + zend n + 8 ≤ cap ∧ w.heap.size ≤ g ∧ Below w.heap.size w w' := by
  have own0 := World.ownsRow_lit (base := w.heap.size) (e := 5) (size := 1) w #[] 0 (Nat.le_refl _) (by decide) rfl
  have v0 : View (w.alloc (.cells #[] 5)) a b off n (fun i => (X i : Int)) := hv.below ((Below.refl _ _).alloc (Nat.le_refl _) _)
  have HV0 : Hid (View (w.alloc (.cells #[] 5)) a b off n (fun i => (X i : Int))) := v0
  clear hv v0
  have z1 := zend_pos n
  have z2 := zend_le n
  obtain ⟨z, hz⟩ : ∃ z, z = zend n := ⟨_, rfl⟩
  have HZ : Hid (z = zend n) := hz
  rw [← hz] at z1 z2
  go_enter Tryd.func26, Tryd.ntmps26
  go_wp2_with (refine wpList_append_bytes (by rfl) (.tmp 6) (.tmp 7) (by rfl) w.heap.size _ 0 [] (by rfl) own0 a b off n c _ (by rfl) HV0.out hnil (by omega) (by simp) ?_)
  intro v1 w1 own1 gr1 nn1
  have b1 : Below w.heap.size w w1 := ((Below.refl _ _).alloc (Nat.le_refl _) _).trans (grown_below gr1 own0 (Nat.le_refl _) (by simp))
  replace own1 : w1.ownsRow w.heap.size 5 1 v1 n (vals (pm n X) n) := by
    rw [vals_congr (fun i hi => pm_low hi)]
    simpa using own1
  clear own0 gr1 nn1 HV0
  have s1 := b1.size
  go_wp2_with (refine wpList_append_bytes (by rfl) (.tmp 9) (.tmp 10) (by rfl) w.heap.size _ n _ (by rfl) (own1.alloc _) (some ⟨w1.heap.size, 0, none⟩) w1.heap.size 0 1 1 _ (by rfl) (view_new1 w1 128 (by decide) (by decide)) (fun h => by cases h) (by omega) (by simp; omega) ?_)
  intro v2 w2 own2 gr2 nn2
  have b2 : Below w.heap.size w w2 := (b1.alloc s1 _).trans (grown_below gr2 (own1.alloc _) (Nat.le_refl _) (by simp; omega))
  replace own2 : w2.ownsRow w.heap.size 5 1 v2 (n + 1) (vals (pm n X) (n + 1)) := by
    rw [← vals_succ, pm_first]
    exact own2
  clear own1 gr2 nn2 b1 s1
  go_wp2_with fail
  go_loopg [3] (z - 1) (fun g v wr => ∃ k : Nat, k + 1 ≤ z ∧ g = z - 1 - k ∧ wr.ownsRow w.heap.size 5 1 v (n + 1 + k) (vals (pm n X) (n + 1 + k)) ∧ Below w.heap.size w wr)
  case atStart => exact ⟨0, z1, rfl, own2, b2⟩
  case round =>
    obtain ⟨k, hk, rfl, own3, b3⟩ := hrel
    clear own2 b2
    have s3 := b3.size
    obtain ⟨g, cap, rfl, hcap, hgB, hgl⟩ := rp_own_slice own3 (by omega)
    have zm := zend_mod n (1 + k) (by omega) (by rw [← hz]; omega)
    rw [← hz, ← Nat.add_assoc] at zm
    by_cases hlt : k + 1 < z
    · have tst : ¬ (n + 1 + k) % 64 = 56 := fun e => by have := zm.1 e; omega
      have t1 : ((((n + 1 + k : Nat) : Int) % 64) != 56) = true := by
        rw [bne_iff_ne]
        intro e
        exact tst (by omega)
      have pz := pm_zero n X (1 + k) (by omega) (by rw [← hz]; omega)
      rw [← Nat.add_assoc] at pz
      clear zm tst
      go_wp2_with (refine wpList_append_bytes (by rfl) (.tmp 16) (.tmp 17) (by rfl) w.heap.size _ (n + 1 + k) _ (by rfl) (own3.alloc _) (some ⟨wr.heap.size, 0, none⟩) wr.heap.size 0 1 1 _ (by rfl) (view_new1 wr 0 (by decide) (by decide)) (fun h => by cases h) (by omega) (by simp; omega) ?_)
      intro v4 w4 own4 gr4 nn4
      have b4 : Below w.heap.size w w4 := (b3.alloc s3 _).trans (grown_below gr4 (own3.alloc _) (Nat.le_refl _) (by simp; omega))
      replace own4 : w4.ownsRow w.heap.size 5 1 v4 (n + 1 + (k + 1)) (vals (pm n X) (n + 1 + (k + 1))) := by
        rw [show n + 1 + (k + 1) = n + 1 + k + 1 by omega, ← vals_succ, pz]
        exact own4
      clear own3 gr4 nn4 b3 t1
      go_wp2_with fail
      go_roundg (z - 1 - (k + 1))
      case measure => omega
      case rel => exact ⟨k + 1, by omega, rfl, own4, b4⟩
    · have tst : (n + 1 + k) % 64 = 56 := zm.2 (by omega)
      have t1 : ((((n + 1 + k : Nat) : Int) % 64) != 56) = false := by
        rw [bne_eq_false_iff_eq]
        omega
      have hkz : k + 1 = z := by omega
      obtain ⟨l, hl⟩ : ∃ l, l = 8 * n := ⟨_, rfl⟩
      obtain ⟨m1, hm1⟩ : ∃ m, m = n + 1 + k := ⟨_, rfl⟩
      have HL : Hid ((n : Int) * 8 = (l : Int) ∧ l = 8 * n ∧ m1 = n + z) := ⟨by omega, hl, by omega⟩
      rw [← hm1] at own3 t1 ⊢
      clear zm tst hkz hl hm1
      go_wp2_with fail
      rw [HL.out.1]
      have own5 : wr.ownsRow w.heap.size 5 1 (.slice (some ⟨g, 0, none⟩) m1 cap) (n + z + 0) (vals (pm n X) (n + z + 0)) := by
        have e : n + z + 0 = m1 := by have := HL.out.2.2; omega
        rw [e]
        exact own3
      have hl2 : l ≤ 1125899906841600 := by have := HL.out.2.1; omega
      clear own3 t1 hcap hgB hgl hz
      go_loopg [3, 5] 8 (fun g v i wr => ∃ j : Nat, j ≤ 8 ∧ g = 8 - j ∧ i = .int .i64 (56 - 8 * (j : Int)) ∧ wr.ownsRow w.heap.size 5 1 v (n + z + j) (vals (pm n X) (n + z + j)) ∧ Below w.heap.size w wr)
      case atStart => exact ⟨0, by omega, rfl, rfl, own5, b3⟩
      case round =>
        obtain ⟨j, hj, rfl, rfl, own6, b6⟩ := hrel
        clear own5 b3 s3
        have s6 := b6.size
        obtain ⟨g', cap', rfl, hcap', hgB', hgl'⟩ := rp_own_slice own6 (by omega)
        by_cases hj8 : j < 8
        · have pl := pm_len n X j hj8
          rw [← HZ.out, ← HL.out.2.1] at pl
          have V : ((l : Int) / 2 ^ (56 - 8 * j) % 256) = ((l / 2 ^ (56 - 8 * j) % 256 : Nat) : Int) := by simp
          have q0 : l / 2 ^ (56 - 8 * j) % 256 < 256 := Nat.mod_lt _ (by decide)
          obtain ⟨x, hx⟩ : ∃ x, x = l / 2 ^ (56 - 8 * j) % 256 := ⟨_, rfl⟩
          rw [← hx] at V pl q0
          have HXX : Hid (x = l / 2 ^ (56 - 8 * j) % 256) := hx
          have HPL : Hid (pm n X (n + z + j) = (x : Int)) := pl
          have h1 : (0 : Int) ≤ 56 - 8 * (j : Int) := by omega
          clear hx pl
          go_wp2_with (refine wpList_append_bytes (by rfl) (.tmp 27) (.tmp 32) (by rfl) w.heap.size _ (n + z + j) _ (by rfl) (own6.alloc _) (some ⟨wr.heap.size, 0, none⟩) wr.heap.size 0 1 1 (fun _ => (x : Int)) (by rfl) (view_new1 wr (x : Int) (by omega) (by omega)) (fun h => by cases h) (by omega) (by simp; omega) ?_)
          intro v7 w7 own7 gr7 nn7
          have b7 : Below w.heap.size w w7 := (b6.alloc s6 _).trans (grown_below gr7 (own6.alloc _) (Nat.le_refl _) (by simp; omega))
          replace own7 : w7.ownsRow w.heap.size 5 1 v7 (n + z + (j + 1)) (vals (pm n X) (n + z + (j + 1))) := by
            rw [← Nat.add_assoc, ← vals_succ, HPL.out]
            exact own7
          clear own6 gr7 nn7 b6 V
          go_wp2_with fail
          go_roundg (8 - (j + 1))
          case measure => omega
          case rel => exact ⟨j + 1, by omega, rfl, by congr 1; omega, own7, b7⟩
        · have : j = 8 := by omega
          subst this
          have h1 : ¬ (0 : Int) ≤ 56 - 8 * ((8 : Nat) : Int) := by omega
          obtain ⟨a', g2, c2, e2, hview, hc2, _⟩ := view_own own6 (fun i _ => pm_bd hX i) (by omega)
          have ea : a' = some ⟨g', 0, none⟩ ∧ c2 = cap' := by
            simp only [Value.slice.injEq] at e2
            exact ⟨e2.1.symm, e2.2.2.symm⟩
          obtain ⟨rfl, rfl⟩ := ea
          have eg : g2 = g' := by have := hview.at_ (by omega); injection this with this; injection this with this; exact this.symm
          subst eg
          have HV9 : Hid (View wr (some ⟨g2, 0, none⟩) g2 0 (n + z + 8) (pm n X) ∧ Below w.heap.size w wr) := ⟨hview, b6⟩
          clear hview b6 own6 e2
          go_wp2_with fail
          go_ret
          rw [← HZ.out]
          exact ⟨g2, c2, rfl, HV9.out.1, hc2, hgB', HV9.out.2⟩
end Go.Proofs.YtadcbhjmbgenbaaDoor
