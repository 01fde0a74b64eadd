import Derived.Test.YtlhllbggnpcoaaaGreatDoorMacF
import Derived.Test.YtlhllbggnpcoaaaGreatDoorSl
import Derived.Test.YtlhllbggnpcoaaaGreatDoorLay
import Derived.Test.YtlhllbggnpcoaaaGreatDoorSched
/-
  Rows made and copied (without the law's own block of stage 3).
-/
namespace Go.Proofs.YtlhllbggnpcoaaaGreatDoor
open Go.RowKit

theorem mk_own {w wr : World} {n : Nat} {f : Nat → Nat} (h : Mk w wr w.heap.size n f) (hn : n ≤ maxLen := by decide) : wr.ownsRow w.heap.size 5 1 (.slice (some ⟨w.heap.size, 0, none⟩) n n) n (vals (fun i => (f i : Int)) n) := by
  obtain ⟨cs, hg, hsz, hcs⟩ := h.row
  refine ⟨by simp [vals], .inr ⟨w.heap.size, n, cs, rfl, Nat.le_refl _, hg, Nat.le_refl _, hn, by omega, ?_⟩⟩
  rw [Nat.mul_one, List.take_of_length_le (by simp; omega)]
  apply List.ext_getElem?
  intro i
  rw [Array.getElem?_toList]
  unfold vals
  by_cases hi : i < n
  · rw [hcs i hi, List.getElem?_map, List.getElem?_range hi]
    rfl
  · rw [Array.getElem?_eq_none (by omega), List.getElem?_eq_none (by simp; omega)]
theorem mk_copied {w w1 wn : World} {cnt : Nat} {Z : Nat → Int} {f : Nat → Nat} (h : Mk w w1 w.heap.size 64 (fun _ => 0)) (hs : Save w.heap.size w1 wn) (hr : wn.rowIs w.heap.size 5 64 (fun i => if 0 ≤ i ∧ i < 0 + cnt then .int .u8 (Z (i - 0)) else .int .u8 ((0 : Nat) : Int)))
    (hf : ∀ i, i < 64 → (if 0 ≤ i ∧ i < 0 + cnt then Value.int .u8 (Z (i - 0)) else .int .u8 ((0 : Nat) : Int)) = .int .u8 (f i)) : Mk w wn w.heap.size 64 f :=
  ⟨h.below.trans (hs.below (Nat.le_refl _) h.below.size), Nat.le_refl _, hr.congr hf⟩
end Go.Proofs.YtlhllbggnpcoaaaGreatDoor

/-
  The padded message: the document's way.
-/
namespace Go.Proofs.YtlhllbggnpcoaaaGreatDoor
open Go.RowKit

/-- the padded message -/
def pm (n : Nat) (X : Nat → Nat) (i : Nat) : Int := ((cat n X (padb n) i : Nat) : Int)
theorem pm_low {n : Nat} {X : Nat → Nat} {i : Nat} (h : i < n) : pm n X i = ((X i : Nat) : Int) := by unfold pm cat; rw [if_pos h]
theorem pm_at (n : Nat) (X : Nat → Nat) (j : Nat) : pm n X (n + j) = ((padb n j : Nat) : Int) := by unfold pm cat; rw [if_neg (by omega), show n + j - n = j by omega]
theorem pm_first (n : Nat) (X : Nat → Nat) : pm n X n = 128 := by
  have := pm_at n X 0
  rw [Nat.add_zero] at this
  rw [this]
  rfl
theorem zend_pos (n : Nat) : 1 ≤ zend n := by unfold zend; split <;> omega
theorem zend_le (n : Nat) : zend n ≤ 64 := by unfold zend; split <;> omega
theorem zend_mod (n j : Nat) (h1 : 1 ≤ j) (h2 : j ≤ zend n) : (n + j) % 64 = 56 ↔ j = zend n := by
  unfold zend at h2 ⊢
  split at h2
  · rw [if_pos (by assumption)]; omega
  · rw [if_neg (by assumption)]; omega
theorem pm_zero (n : Nat) (X : Nat → Nat) (j : Nat) (h1 : 1 ≤ j) (h2 : j < zend n) : pm n X (n + j) = 0 := by
  rw [pm_at]
  unfold padb
  rw [if_neg (by omega), if_neg (by omega)]
  rfl
theorem pm_len (n : Nat) (X : Nat → Nat) (j : Nat) (hj : j < 8) : pm n X (n + zend n + j) = (((8 * n) / 2 ^ (56 - 8 * j) % 256 : Nat) : Int) := by
  have := zend_pos n
  rw [Nat.add_assoc, pm_at]
  unfold padb
  rw [if_neg (by omega), if_pos ⟨by omega, by omega⟩, show zend n + j - zend n = j by omega]
theorem pm_bd {n : Nat} {X : Nat → Nat} (hX : ∀ i, X i < 256) (i : Nat) : 0 ≤ pm n X i ∧ pm n X i ≤ 255 := by
  have := cat_lt (n := n) hX (padb_lt n) i
  unfold pm
  omega
theorem rp_own_slice {w : World} {B e size n : Nat} {v : Value} {xs : List Value} (h : w.ownsRow B e size v n xs) (h0 : 0 < n) : ∃ g cap, v = .slice (some ⟨g, 0, none⟩) n cap ∧ n ≤ cap ∧ B ≤ g ∧ g < w.heap.size := by
  rcases h.2 with ⟨_, h1⟩ | ⟨g, cap, cur, hv, hB, hg, hc, _⟩
  · omega
  · have := h.lt g (by rw [hv]; rfl)
    exact ⟨g, cap, hv, hc, hB, this.2⟩

set_option maxRecDepth 100000 in
set_option maxHeartbeats 1600000 in
theorem padded_any (w : World) (a : Option Addr) (b off n c : Nat) (X : Nat → Nat) (hv : View w a b off n (fun i => (X i : Int))) (hX : ∀ i, X i < 256) (hnil : a = none → c = 0) (hn : n ≤ 140737488355200) :
    Calls Tryz.prog 125 #[.slice a n c] w fun e w' => ∃ g cap, e = .returned (.slice (some ⟨g, 0, none⟩) (n + zend n + 8) cap) ∧ View w' (some ⟨g, 0, none⟩) g 0 (n + zend n + 8) (pm n X) ∧ n + zend n + 8 ≤ cap ∧ w.heap.size ≤ g ∧ Below w.heap.size w w' := by
  have own0 := World.ownsRow_lit (base := w.heap.size) (e := 5) (size := 1) w #[] 0 (Nat.le_refl _) (by decide) rfl
  have v0 : View (w.alloc (.cells #[] 5)) a b off n (fun i => (X i : Int)) := hv.below ((Below.refl _ _).alloc (Nat.le_refl _) _)
  have HV0 : Hid (View (w.alloc (.cells #[] 5)) a b off n (fun i => (X i : Int))) := v0
  clear hv v0
  have z1 := zend_pos n
  have z2 := zend_le n
  obtain ⟨z, hz⟩ : ∃ z, z = zend n := ⟨_, rfl⟩
  have HZ : Hid (z = zend n) := hz
  rw [← hz] at z1 z2
  go_enter Tryz.func125, Tryz.ntmps125
  go_wp2_with (refine wpList_append_bytes (by rfl) (.tmp 6) (.tmp 7) (by rfl) w.heap.size _ 0 [] (by rfl) own0 a b off n c _ (by rfl) HV0.out hnil (by omega) (by simp) ?_)
  intro v1 w1 own1 gr1 nn1
  have b1 : Below w.heap.size w w1 := ((Below.refl _ _).alloc (Nat.le_refl _) _).trans (grown_below gr1 own0 (Nat.le_refl _) (by simp))
  replace own1 : w1.ownsRow w.heap.size 5 1 v1 n (vals (pm n X) n) := by
    rw [vals_congr (fun i hi => pm_low hi)]
    simpa using own1
  clear own0 gr1 nn1 HV0
  have s1 := b1.size
  go_wp2_with (refine wpList_append_bytes (by rfl) (.tmp 9) (.tmp 10) (by rfl) w.heap.size _ n _ (by rfl) (own1.alloc _) (some ⟨w1.heap.size, 0, none⟩) w1.heap.size 0 1 1 _ (by rfl) (view_new1 w1 128 (by decide) (by decide)) (fun h => by cases h) (by omega) (by simp; omega) ?_)
  intro v2 w2 own2 gr2 nn2
  have b2 : Below w.heap.size w w2 := (b1.alloc s1 _).trans (grown_below gr2 (own1.alloc _) (Nat.le_refl _) (by simp; omega))
  replace own2 : w2.ownsRow w.heap.size 5 1 v2 (n + 1) (vals (pm n X) (n + 1)) := by
    rw [← vals_succ, pm_first]
    exact own2
  clear own1 gr2 nn2 b1 s1
  go_wp2_with fail
  go_loopg [3] (z - 1) (fun g v wr => ∃ k : Nat, k + 1 ≤ z ∧ g = z - 1 - k ∧ wr.ownsRow w.heap.size 5 1 v (n + 1 + k) (vals (pm n X) (n + 1 + k)) ∧ Below w.heap.size w wr)
  case atStart => exact ⟨0, z1, rfl, own2, b2⟩
  case round =>
    obtain ⟨k, hk, rfl, own3, b3⟩ := hrel
    clear own2 b2
    have s3 := b3.size
    obtain ⟨g, cap, rfl, hcap, hgB, hgl⟩ := rp_own_slice own3 (by omega)
    have zm := zend_mod n (1 + k) (by omega) (by rw [← hz]; omega)
    rw [← hz, ← Nat.add_assoc] at zm
    by_cases hlt : k + 1 < z
    · have tst : ¬ (n + 1 + k) % 64 = 56 := fun e => by have := zm.1 e; omega
      have t1 : ((((n + 1 + k : Nat) : Int) % 64) != 56) = true := by
        rw [bne_iff_ne]
        intro e
        exact tst (by omega)
      have pz := pm_zero n X (1 + k) (by omega) (by rw [← hz]; omega)
      rw [← Nat.add_assoc] at pz
      clear zm tst
      go_wp2_with (refine wpList_append_bytes (by rfl) (.tmp 16) (.tmp 17) (by rfl) w.heap.size _ (n + 1 + k) _ (by rfl) (own3.alloc _) (some ⟨wr.heap.size, 0, none⟩) wr.heap.size 0 1 1 _ (by rfl) (view_new1 wr 0 (by decide) (by decide)) (fun h => by cases h) (by omega) (by simp; omega) ?_)
      intro v4 w4 own4 gr4 nn4
      have b4 : Below w.heap.size w w4 := (b3.alloc s3 _).trans (grown_below gr4 (own3.alloc _) (Nat.le_refl _) (by simp; omega))
      replace own4 : w4.ownsRow w.heap.size 5 1 v4 (n + 1 + (k + 1)) (vals (pm n X) (n + 1 + (k + 1))) := by
        rw [show n + 1 + (k + 1) = n + 1 + k + 1 by omega, ← vals_succ, pz]
        exact own4
      clear own3 gr4 nn4 b3 t1
      go_wp2_with fail
      go_roundg (z - 1 - (k + 1))
      case measure => omega
      case rel => exact ⟨k + 1, by omega, rfl, own4, b4⟩
    · have tst : (n + 1 + k) % 64 = 56 := zm.2 (by omega)
      have t1 : ((((n + 1 + k : Nat) : Int) % 64) != 56) = false := by
        rw [bne_eq_false_iff_eq]
        omega
      have hkz : k + 1 = z := by omega
      obtain ⟨l, hl⟩ : ∃ l, l = 8 * n := ⟨_, rfl⟩
      obtain ⟨m1, hm1⟩ : ∃ m, m = n + 1 + k := ⟨_, rfl⟩
      have HL : Hid ((n : Int) * 8 = (l : Int) ∧ l = 8 * n ∧ m1 = n + z) := ⟨by omega, hl, by omega⟩
      rw [← hm1] at own3 t1 ⊢
      clear zm tst hkz hl hm1
      go_wp2_with fail
      rw [HL.out.1]
      have own5 : wr.ownsRow w.heap.size 5 1 (.slice (some ⟨g, 0, none⟩) m1 cap) (n + z + 0) (vals (pm n X) (n + z + 0)) := by
        have e : n + z + 0 = m1 := by have := HL.out.2.2; omega
        rw [e]
        exact own3
      have hl2 : l ≤ 1125899906841600 := by have := HL.out.2.1; omega
      clear own3 t1 hcap hgB hgl hz
      go_loopg [3, 5] 8 (fun g v i wr => ∃ j : Nat, j ≤ 8 ∧ g = 8 - j ∧ i = .int .i64 (56 - 8 * (j : Int)) ∧ wr.ownsRow w.heap.size 5 1 v (n + z + j) (vals (pm n X) (n + z + j)) ∧ Below w.heap.size w wr)
      case atStart => exact ⟨0, by omega, rfl, rfl, own5, b3⟩
      case round =>
        obtain ⟨j, hj, rfl, rfl, own6, b6⟩ := hrel
        clear own5 b3 s3
        have s6 := b6.size
        obtain ⟨g', cap', rfl, hcap', hgB', hgl'⟩ := rp_own_slice own6 (by omega)
        by_cases hj8 : j < 8
        · have pl := pm_len n X j hj8
          rw [← HZ.out, ← HL.out.2.1] at pl
          have V : ((l : Int) / 2 ^ (56 - 8 * j) % 256) = ((l / 2 ^ (56 - 8 * j) % 256 : Nat) : Int) := by simp
          have q0 : l / 2 ^ (56 - 8 * j) % 256 < 256 := Nat.mod_lt _ (by decide)
          obtain ⟨x, hx⟩ : ∃ x, x = l / 2 ^ (56 - 8 * j) % 256 := ⟨_, rfl⟩
          rw [← hx] at V pl q0
          have HXX : Hid (x = l / 2 ^ (56 - 8 * j) % 256) := hx
          have HPL : Hid (pm n X (n + z + j) = (x : Int)) := pl
          have h1 : (0 : Int) ≤ 56 - 8 * (j : Int) := by omega
          clear hx pl
          go_wp2_with (refine wpList_append_bytes (by rfl) (.tmp 27) (.tmp 32) (by rfl) w.heap.size _ (n + z + j) _ (by rfl) (own6.alloc _) (some ⟨wr.heap.size, 0, none⟩) wr.heap.size 0 1 1 (fun _ => (x : Int)) (by rfl) (view_new1 wr (x : Int) (by omega) (by omega)) (fun h => by cases h) (by omega) (by simp; omega) ?_)
          intro v7 w7 own7 gr7 nn7
          have b7 : Below w.heap.size w w7 := (b6.alloc s6 _).trans (grown_below gr7 (own6.alloc _) (Nat.le_refl _) (by simp; omega))
          replace own7 : w7.ownsRow w.heap.size 5 1 v7 (n + z + (j + 1)) (vals (pm n X) (n + z + (j + 1))) := by
            rw [← Nat.add_assoc, ← vals_succ, HPL.out]
            exact own7
          clear own6 gr7 nn7 b6 V
          go_wp2_with fail
          go_roundg (8 - (j + 1))
          case measure => omega
          case rel => exact ⟨j + 1, by omega, rfl, by congr 1; omega, own7, b7⟩
        · have : j = 8 := by omega
          subst this
          have h1 : ¬ (0 : Int) ≤ 56 - 8 * ((8 : Nat) : Int) := by omega
          obtain ⟨a', g2, c2, e2, hview, hc2, _⟩ := view_own own6 (fun i _ => pm_bd hX i) (by omega)
          have ea : a' = some ⟨g', 0, none⟩ ∧ c2 = cap' := by
            simp only [Value.slice.injEq] at e2
            exact ⟨e2.1.symm, e2.2.2.symm⟩
          obtain ⟨rfl, rfl⟩ := ea
          have eg : g2 = g' := by have := hview.at_ (by omega); injection this with this; injection this with this; exact this.symm
          subst eg
          have HV9 : Hid (View wr (some ⟨g2, 0, none⟩) g2 0 (n + z + 8) (pm n X) ∧ Below w.heap.size w wr) := ⟨hview, b6⟩
          clear hview b6 own6 e2
          go_wp2_with fail
          go_ret
          rw [← HZ.out]
          exact ⟨g2, c2, rfl, HV9.out.1, hc2, hgB', HV9.out.2⟩
end Go.Proofs.YtlhllbggnpcoaaaGreatDoor

/-
  A word turned right, the reference's way.
-/
namespace Go.Proofs.YtlhllbggnpcoaaaGreatDoor
open Go.RowKit

set_option maxHeartbeats 400000 in
theorem turned_any (w : World) (x : Nat) (n : Nat) (h2 : x < 4294967296) (hn : 1 ≤ n) (hm : n ≤ 31) :
    Calls Tryz.prog 135 #[.int .u32 x, .int .i64 (n : Int)] w fun e w' => e = .returned (.int .u32 (rot x n)) ∧ ∃ q, w' = w.drewN q := by
  go_enter Tryz.func135, Tryz.ntmps135
  go_wp2
  go_quiet (fail)
  go_wp2
  rw [turn_or x n h2]
  go_ret
  exact ⟨rfl, nq, rfl⟩
end Go.Proofs.YtlhllbggnpcoaaaGreatDoor

/-
  A block's sixty-four words: the document's way.
-/
namespace Go.Proofs.YtlhllbggnpcoaaaGreatDoor
open Go.RowKit

theorem two64_drew {w w1 w2 : World} {f : Nat → Nat} (h : Hid (Two64 w w1 f)) (hq : ∃ q, w2 = w1.drewN q) : Hid (Two64 w w2 f) := by
  obtain ⟨q, rfl⟩ := hq
  exact h.out.drewN q

set_option maxRecDepth 100000 in
set_option maxHeartbeats 8000000 in
theorem rwords_any (w : World) (a : Option Addr) (b off c : Nat) (B : Nat → Nat) (h : View w a b off 64 (fun i => (B i : Int))) (hB : ∀ i, B i < 256) :
    Calls Tryz.prog 134 #[.slice a 64 c] w fun e w' => (∃ cs : Array Value, e = .returned (.agg cs) ∧ cs.size = 64 ∧ ∀ i, i < 64 → cs[i]? = some (.int .u32 (sched B i))) ∧ Below w.heap.size w w' := by
  obtain rfl := h.at_ (by omega)
  have hb := h.lt (by omega)
  go_enter Tryz.func134, Tryz.ntmps134
  go_wp2
  go_loopg [4] 16 (fun g i wr => ∃ k : Nat, k ≤ 16 ∧ g = 16 - k ∧ i = .int .i64 k ∧ Two64 w wr (fun i => if i < k then sched B i else 0))
  case atStart => exact ⟨0, by omega, rfl, rfl, (two64_start w).congr (fun i _ => by simp)⟩
  case round =>
    obtain ⟨k, hk, rfl, rfl, hR⟩ := hrel
    by_cases hkn : k < 16
    · have c0 : wr.cell? ⟨b, off + 4 * k, none⟩ = some (.int .u8 (B (4 * k))) := (hR.below.cell (p := ⟨b, off + 4 * k, none⟩) hb).trans (h.cell (4 * k) (by omega))
      have c1 : wr.cell? ⟨b, off + (4 * k + 1), none⟩ = some (.int .u8 (B (4 * k + 1))) := (hR.below.cell (p := ⟨b, off + (4 * k + 1), none⟩) hb).trans (h.cell (4 * k + 1) (by omega))
      have c2 : wr.cell? ⟨b, off + (4 * k + 2), none⟩ = some (.int .u8 (B (4 * k + 2))) := (hR.below.cell (p := ⟨b, off + (4 * k + 2), none⟩) hb).trans (h.cell (4 * k + 2) (by omega))
      have c3 : wr.cell? ⟨b, off + (4 * k + 3), none⟩ = some (.int .u8 (B (4 * k + 3))) := (hR.below.cell (p := ⟨b, off + (4 * k + 3), none⟩) hb).trans (h.cell (4 * k + 3) (by omega))
      have fz := hR.row.frozen k
      have cc := hR.row.cell (i := k) (by omega)
      simp only [Nat.lt_irrefl, if_false] at cc
      have HR : Hid (Two64 w wr (fun i => if i < k then sched B i else 0)) := hR
      clear hR
      go_wp2
      go_region
      go_wp2
      rw [be_spelt hB k]
      clear cc fz c0 c1 c2 c3
      go_roundg (16 - (k + 1))
      case measure => omega
      case rel =>
        refine ⟨k + 1, by omega, rfl, by go_num, ((HR.out.set k (be B k)).drew).congr (fun i _ => ?_)⟩
        by_cases e : i = k
        · subst e
          rw [if_pos rfl, if_pos (by omega), sched_low B hkn]
        · rw [if_neg e]
          by_cases e2 : i < k
          · rw [if_pos e2, if_pos (by omega)]
          · rw [if_neg e2, if_neg (by omega)]
    · have : k = 16 := by omega
      subst this
      go_wp2
      have HR : Hid (Two64 w wr (fun i => if i < 16 then sched B i else 0)) := hR
      clear hR
      go_loopg [5] 48 (fun g i wr => ∃ k : Nat, 16 ≤ k ∧ k ≤ 64 ∧ g = 64 - k ∧ i = .int .i64 k ∧ Two64 w wr (fun i => if i < k then sched B i else 0))
      case atStart => exact ⟨16, by omega, by omega, rfl, rfl, HR⟩
      case round =>
        clear HR
        obtain ⟨k, hk0, hk, rfl, rfl, hR⟩ := hrel
        by_cases hkn : k < 64
        · have c2 := hR.row.cell (i := k - 2) (by omega)
          have c7 := hR.row.cell (i := k - 7) (by omega)
          have c15 := hR.row.cell (i := k - 15) (by omega)
          have c16 := hR.row.cell (i := k - 16) (by omega)
          rw [if_pos (by omega)] at c2 c7 c15 c16
          have l2 := sched_lt hB (k - 2)
          have l7 := sched_lt hB (k - 7)
          have l15 := sched_lt hB (k - 15)
          have l16 := sched_lt hB (k - 16)
          have E := sched_high B hk0
          obtain ⟨x2, h2⟩ : ∃ x, x = sched B (k - 2) := ⟨_, rfl⟩
          obtain ⟨x7, h7⟩ : ∃ x, x = sched B (k - 7) := ⟨_, rfl⟩
          obtain ⟨x15, h15⟩ : ∃ x, x = sched B (k - 15) := ⟨_, rfl⟩
          obtain ⟨x16, h16⟩ : ∃ x, x = sched B (k - 16) := ⟨_, rfl⟩
          rw [← h2] at c2 l2
          rw [← h7] at c7 l7
          rw [← h15] at c15 l15
          rw [← h16] at c16 l16
          rw [← h2, ← h7, ← h15, ← h16] at E
          have H7 : Hid (x7 = sched B (k - 7) ∧ x16 = sched B (k - 16)) := ⟨h7, h16⟩
          clear h2 h7 h15 h16
          have HE : Hid (sched B k = wnew x2 x7 x15 x16) := E
          clear E
          have fz := hR.row.frozen k
          have cc := hR.row.cell (i := k) (by omega)
          simp only [Nat.lt_irrefl, if_false] at cc
          have HR : Hid (Two64 w wr (fun i => if i < k then sched B i else 0)) := hR
          clear hR
          go_wp2_with fail
          refine (turned_any _ x15 7 l15 (by omega) (by omega)).mono ?_
          rintro _ wq ⟨rfl, hq⟩
          replace HR := two64_drew HR hq
          clear hq
          go_wp2_with fail
          refine (turned_any _ x15 18 l15 (by omega) (by omega)).mono ?_
          rintro _ wq2 ⟨rfl, hq⟩
          replace HR := two64_drew HR hq
          clear hq
          go_wp2_with fail
          refine (turned_any _ x2 17 l2 (by omega) (by omega)).mono ?_
          rintro _ wq3 ⟨rfl, hq⟩
          replace HR := two64_drew HR hq
          clear hq
          go_wp2_with fail
          refine (turned_any _ x2 19 l2 (by omega) (by omega)).mono ?_
          rintro _ wp ⟨rfl, hq⟩
          replace HR := two64_drew HR hq
          clear hq
          go_wp2_with fail
          have c7' : wp.cell? ⟨w.heap.size + 1, k - 7, none⟩ = some (.int .u32 x7) := by
            have e := HR.out.row.cell (i := k - 7) (by omega)
            rw [if_pos (by omega), ← H7.out.1] at e
            exact e
          have c16' : wp.cell? ⟨w.heap.size + 1, k - 16, none⟩ = some (.int .u32 x16) := by
            have e := HR.out.row.cell (i := k - 16) (by omega)
            rw [if_pos (by omega), ← H7.out.2] at e
            exact e
          clear c2 c7 c15 c16 fz cc
          have fz := HR.out.row.frozen k
          have cc := HR.out.row.cell (i := k) (by omega)
          simp only [Nat.lt_irrefl, if_false] at cc
          rw [s0_spelt l15, s1_spelt l2]
          have m0 := s0_lt l15
          have m1 := s1_lt l2
          obtain ⟨y0, hy0⟩ : ∃ y, y = s0 x15 := ⟨_, rfl⟩
          obtain ⟨y1, hy1⟩ : ∃ y, y = s1 x2 := ⟨_, rfl⟩
          rw [← hy0] at m0 ⊢
          rw [← hy1] at m1 ⊢
          have Hy : Hid (y0 = s0 x15 ∧ y1 = s1 x2) := ⟨hy0, hy1⟩
          clear hy0 hy1
          go_wp2
          go_region
          go_wp2
          have V : ((y1 : Int) + (x7 : Int) + (y0 : Int) + (x16 : Int)) % 4294967296 = ((sched B k : Nat) : Int) := by
            rw [HE.out, Hy.out.1, Hy.out.2]
            simp only [wnew, M]
            omega
          rw [V]
          clear cc fz c7' c16'
          go_roundg (64 - (k + 1))
          case measure => omega
          case rel =>
            refine ⟨k + 1, by omega, by omega, rfl, by go_num, ((HR.out.set k (sched B k)).drew).congr (fun i _ => ?_)⟩
            by_cases e : i = k
            · subst e
              rw [if_pos rfl, if_pos (by omega)]
            · rw [if_neg e]
              by_cases e2 : i < k
              · rw [if_pos e2, if_pos (by omega)]
              · rw [if_neg e2, if_neg (by omega)]
        · have : k = 64 := by omega
          subst this
          obtain ⟨cs, hg, hsz, hcs⟩ := hR.row
          obtain ⟨os, og, osz, _⟩ := hR.out
          have hi : (Tryz.prog.info? 144).map (·.size) = some cs.size := by rw [hsz]; exact info62
          have h1 : cs.all (·.oneCell') = true := all_one (fun i hi => ⟨_, _, hcs i (by omega)⟩)
          have HR : Hid (Two64 w wr (fun i => if i < 64 then sched B i else 0)) := hR
          clear hR
          go_wp2_with (first
            | refine wpList_load_row rfl 144 (.tmp 3) rfl (w.heap.size + 1) rfl 144 cs (0, 0) _ hg Tryz.underlying144 rfl hi ?_
            | refine wpList_store_row rfl 144 (.tmp 2) (.tmp 92) rfl w.heap.size cs rfl rfl 144 os og hi (by omega) h1 ?_)
          refine bodyPost_ret (v := .agg cs) ?_ rfl ?_
          · exact results_cell_row rfl _ _ w.heap.size 144 cs (0, 0) _ rfl (setRow_heap _ _ _ _ _ _ og) Tryz.underlying144 rfl hi
          refine ⟨⟨cs, rfl, hsz, fun i hi => by rw [hcs i hi, if_pos hi]⟩, below_setRow HR.out.below (Nat.le_refl _) _⟩
end Go.Proofs.YtlhllbggnpcoaaaGreatDoor
