/-
  The law's own block, by the program's sums.
-/
import Derived.Test.YtleabfmlokjllaaDoorMacF
import Derived.Test.YtleabfmlokjllaaDoorSl
namespace Go.Proofs.YtleabfmlokjllaaDoor
open Go.RowKit

theorem mk_own {w wr : World} {n : Nat} {f : Nat → Nat} (h : Mk w wr w.heap.size n f) (hn : n ≤ maxLen := by decide) : wr.ownsRow w.heap.size 5 1 (.slice (some ⟨w.heap.size, 0, none⟩) n n) n (vals (fun i => (f i : Int)) n) := by
  obtain ⟨cs, hg, hsz, hcs⟩ := h.row
  refine ⟨by simp [vals], .inr ⟨w.heap.size, n, cs, rfl, Nat.le_refl _, hg, Nat.le_refl _, hn, by omega, ?_⟩⟩
  rw [Nat.mul_one, List.take_of_length_le (by simp; omega)]
  apply List.ext_getElem?
  intro i
  rw [Array.getElem?_toList]
  unfold vals
  by_cases hi : i < n
  · rw [hcs i hi, List.getElem?_map, List.getElem?_range hi]
    rfl
  · rw [Array.getElem?_eq_none (by omega), List.getElem?_eq_none (by simp; omega)]
theorem mk_copied {w w1 wn : World} {cnt : Nat} {Z : Nat → Int} {f : Nat → Nat} (h : Mk w w1 w.heap.size 64 (fun _ => 0)) (hs : Save w.heap.size w1 wn) (hr : wn.rowIs w.heap.size 5 64 (fun i => if 0 ≤ i ∧ i < 0 + cnt then .int .u8 (Z (i - 0)) else .int .u8 ((0 : Nat) : Int)))
    (hf : ∀ i, i < 64 → (if 0 ≤ i ∧ i < 0 + cnt then Value.int .u8 (Z (i - 0)) else .int .u8 ((0 : Nat) : Int)) = .int .u8 (f i)) : Mk w wn w.heap.size 64 f :=
  ⟨h.below.trans (hs.below (Nat.le_refl _) h.below.size), Nat.le_refl _, hr.congr hf⟩

set_option maxRecDepth 100000 in
set_option maxHeartbeats 1600000 in
theorem lblock_any (w : World) (a : Option Addr) (b off n c : Nat) (S : Nat → Nat) (hv : View w a b off n (fun i => (S i : Int))) (hc : n ≤ c) (hS : ∀ i, S i < 256) (x : Nat) (hx : x < 256) (hG : Ground w) :
    Calls Tryd.prog 8 #[.slice a n c, .int .u8 x] w fun e w' => e = .returned (.slice (some ⟨w.heap.size, 0, none⟩) 64 64) ∧ w'.ownsRow w.heap.size 5 1 (.slice (some ⟨w.heap.size, 0, none⟩) 64 64) 64 (vals (fun i => (msk x (blk n S) i : Int)) 64) ∧ Below w.heap.size w w' := by
  have hmk := run_make_row' (P := Tryd.prog) 22 5 (.int .u8 0) 1 Tryd.underlying22 Tryd.info5 rfl .i64 .i64 64 (by omega) (by omega)
  rw [show ((64 : Nat) : Int) = (64 : Int) from rfl] at hmk
  have HM : Hid (Mk w (w.alloc (.cells (madeCells #[.int .u8 0] 64) 5)) w.heap.size 64 (fun _ => 0)) := mk_made (Below.refl _ _) 64
  have HV : Hid (View w a b off n (fun i => (S i : Int))) := hv
  have HG : Hid (Ground w) := hG
  have ln := hv.len
  have sz1 : (w.alloc (.cells (madeCells #[.int .u8 0] 64) 5)).heap.size = w.heap.size + 1 := by simp
  clear hv hG
  obtain ⟨w1, hw1⟩ : ∃ y, y = w.alloc (.cells (madeCells #[.int .u8 0] 64) 5) := ⟨_, rfl⟩
  rw [← hw1] at HM sz1
  by_cases hn : n ≤ 64
  · go_enter Tryd.func8, Tryd.ntmps8
    go_wp2_with (first
      | (rw [← hw1]; refine wpList_copy_in (by rfl) (.tmp 18) (.tmp 19) (by rfl) w.heap.size 0 64 64 5 64 (fun _ => .int .u8 ((0 : Nat) : Int)) (by rfl) HM.out.row (by omega) a b off n c _ (by rfl) (HV.out.below HM.out.below) n (Nat.min_eq_left hn).symm ?_; intro wn hsn hrn; have HM2 : Hid (Mk w wn w.heap.size 64 (blk n S)) := (mk_copied (Z := fun i => (S i : Int)) HM.out hsn hrn (fun i hi => (by unfold blk; rw [if_pos hn]; by_cases e : i < n; (simp [e]); (simp [e])))); clear hsn hrn))
    clear hmk hw1
    go_loopg [23] 64 (fun g i wr => ∃ k : Nat, k ≤ 64 ∧ g = 64 - k ∧ i = .int .i64 k ∧ Mk w wr w.heap.size 64 (fun j => if j < k then msk x (blk n S) j else blk n S j))
    case atStart => exact ⟨0, by omega, rfl, rfl, HM2.out.congr (fun i _ => by simp)⟩
    case round =>
      obtain ⟨k, hk, rfl, rfl, hR⟩ := hrel
      clear HM2
      by_cases hkn : k < 64
      · have cc := hR.row.cell (i := k) hkn
        have fz := hR.row.frozen k
        simp only [Nat.lt_irrefl, if_false] at cc
        have hbb := blk_lt (n := n) hS k
        obtain ⟨z, hz⟩ : ∃ z, z = blk n S k := ⟨_, rfl⟩
        rw [← hz] at cc hbb
        have Hz : Hid (z = blk n S k) := hz
        have HR : Hid (Mk w wr w.heap.size 64 (fun j => if j < k then msk x (blk n S) j else blk n S j)) := hR
        have hxx := u8_xor_nat z x hbb hx
        clear hR hz
        go_wp2_with fail
        go_roundg (64 - (k + 1))
        case measure => omega
        case rel =>
          refine ⟨k + 1, by omega, rfl, by go_num, (HR.out.set k _).congr (fun i _ => ?_)⟩
          by_cases e : i = k
          · subst e
            rw [if_pos rfl, if_pos (by omega), Hz.out]
            rfl
          · rw [if_neg e]
            by_cases l : i < k
            · rw [if_pos l, if_pos (by omega)]
            · rw [if_neg l, if_neg (by omega)]
      · have : k = 64 := by omega
        subst this
        have HR : Hid (Mk w wr w.heap.size 64 (msk x (blk n S))) := hR.congr (fun i hi => by rw [if_pos hi])
        clear hR
        go_wp2_with fail
        go_ret
        exact ⟨rfl, mk_own HR.out, HR.out.below⟩
  · have c15 := sum_one w1 a b off n c 22 1 S (HV.out.below HM.out.below) hc hS (HG.out.below HM.out.below).first (HG.out.below HM.out.below).roots (HG.out.below HM.out.below).big
    obtain ⟨D, hD⟩ : ∃ d, d = digest n S := ⟨_, rfl⟩
    rw [← hD] at c15
    have HD : Hid (D = digest n S) := hD
    clear hD
    rw [sz1] at c15
    rw [hw1] at c15
    go_enter Tryd.func8, Tryd.ntmps8
    go_wp2_with fail
    refine c15.mono ?_
    rintro _ w3 ⟨rfl, hb3⟩
    rw [← hw1] at hb3
    have b3 : Below w1.heap.size w1 w3 := (((Below.refl _ _).alloc (Nat.le_refl _) _).trans (hb3.mono (by simp)))
    have hl := hash_laid w3 D
    have HX : Hid (HashAt ((w3.alloc (.cells Z32 24)).setRow w3.heap.size (hashA D)) w3.heap.size D ∧ Mk w ((w3.alloc (.cells Z32 24)).setRow w3.heap.size (hashA D)) w.heap.size 64 (fun _ => 0)) := ⟨hl.1, HM.out.step (ch b3 hl.2)⟩
    clear hb3 b3 hl c15 hw1
    go_wp2_with (first
      | (refine wpList_store_row (by rfl) 24 (.tmp 6) (.tmp 14) (by rfl) w3.heap.size (hashA D) (by rfl) (by rfl) 24 Z32 (heap_alloc_new _ _) (hashA_info _) (Z32_hash _) (hashA_one _) ?_; change wpList _ _ _ _ _ ((w3.alloc (.cells Z32 24)).setRow w3.heap.size (hashA D)); revert HX; generalize (w3.alloc (.cells Z32 24)).setRow w3.heap.size (hashA D) = w4; intro HX)
      | (refine wpList_copy_in (by rfl) (.tmp 15) (.tmp 16) (by rfl) w.heap.size 0 64 64 5 64 (fun _ => .int .u8 ((0 : Nat) : Int)) (by rfl) HX.out.2.row (by omega) (some ⟨w3.heap.size, 0, none⟩) w3.heap.size 0 32 32 _ (by rfl) (hash_view HX.out.1) 32 (by rfl) ?_; intro wn hsn hrn; have HM2 : Hid (Mk w wn w.heap.size 64 (blk n S)) := (mk_copied (Z := fun i => ((hb D i : Nat) : Int)) HX.out.2 hsn hrn (fun i hi => (by unfold blk; rw [if_neg hn, ← HD.out]; by_cases e : i < 32; (simp [e]); (simp [e])))); clear hsn hrn HX))
    clear hmk
    go_loopg [23] 64 (fun g i wr => ∃ k : Nat, k ≤ 64 ∧ g = 64 - k ∧ i = .int .i64 k ∧ Mk w wr w.heap.size 64 (fun j => if j < k then msk x (blk n S) j else blk n S j))
    case atStart => exact ⟨0, by omega, rfl, rfl, HM2.out.congr (fun i _ => by simp)⟩
    case round =>
      obtain ⟨k, hk, rfl, rfl, hR⟩ := hrel
      clear HM2
      by_cases hkn : k < 64
      · have cc := hR.row.cell (i := k) hkn
        have fz := hR.row.frozen k
        simp only [Nat.lt_irrefl, if_false] at cc
        have hbb := blk_lt (n := n) hS k
        obtain ⟨z, hz⟩ : ∃ z, z = blk n S k := ⟨_, rfl⟩
        rw [← hz] at cc hbb
        have Hz : Hid (z = blk n S k) := hz
        have HR : Hid (Mk w wr w.heap.size 64 (fun j => if j < k then msk x (blk n S) j else blk n S j)) := hR
        have hxx := u8_xor_nat z x hbb hx
        clear hR hz
        go_wp2_with fail
        go_roundg (64 - (k + 1))
        case measure => omega
        case rel =>
          refine ⟨k + 1, by omega, rfl, by go_num, (HR.out.set k _).congr (fun i _ => ?_)⟩
          by_cases e : i = k
          · subst e
            rw [if_pos rfl, if_pos (by omega), Hz.out]
            rfl
          · rw [if_neg e]
            by_cases l : i < k
            · rw [if_pos l, if_pos (by omega)]
            · rw [if_neg l, if_neg (by omega)]
      · have : k = 64 := by omega
        subst this
        have HR : Hid (Mk w wr w.heap.size 64 (msk x (blk n S))) := hR.congr (fun i hi => by rw [if_pos hi])
        clear hR
        go_wp2_with fail
        go_ret
        exact ⟨rfl, mk_own HR.out, HR.out.below⟩
end Go.Proofs.YtleabfmlokjllaaDoor
