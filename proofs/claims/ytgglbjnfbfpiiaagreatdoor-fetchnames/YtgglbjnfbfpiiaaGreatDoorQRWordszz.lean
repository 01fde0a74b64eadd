import Derived.Test.YtgglbjnfbfpiiaaGreatDoorQSchedzz
import Derived.Test.YtgglbjnfbfpiiaaGreatDoorQRRotzz
/-
  A block's sixty-four words: the document's way.
-/
namespace Go.Proofs.YtgglbjnfbfpiiaaGreatDoor.Dg
open Go.RowKit
theorem two64_drew {w w1 w2 : World} {f : Nat → Nat} (h : Hid (Two64 w w1 f)) (hq : ∃ q, w2 = w1.drewN q) : Hid (Two64 w w2 f) := by
  obtain ⟨q, rfl⟩ := hq
  exact h.out.drewN q
set_option maxRecDepth 100000 in
set_option maxHeartbeats 8000000 in
theorem rwords_any (w : World) (a : Option Addr) (b off c : Nat) (B : Nat → Nat) (h : View w a b off 64 (fun i => (B i : Int))) (hB : ∀ i, B i < 256) :
    Calls Tryz.prog 103 #[.slice a 64 c] w fun e w' => (∃ cs : Array Value, e = .returned (.agg cs) ∧ cs.size = 64 ∧ ∀ i, i < 64 → cs[i]? = some (.int .u32 (sched B i))) ∧ Below w.heap.size w w' := by
  obtain rfl := h.at_ (by omega)
  have hb := h.lt (by omega)
  go_enter Tryz.func103, Tryz.ntmps103
  go_wp2
  go_loopg [4] 16 (fun g i wr => ∃ k : Nat, k ≤ 16 ∧ g = 16 - k ∧ i = .int .i64 k ∧ Two64 w wr (fun i => if i < k then sched B i else 0))
  case atStart => exact ⟨0, by omega, rfl, rfl, (two64_start w).congr (fun i _ => by simp)⟩
  case round =>
    obtain ⟨k, hk, rfl, rfl, hR⟩ := hrel
    by_cases hkn : k < 16
    · have c0 : wr.cell? ⟨b, off + 4 * k, none⟩ = some (.int .u8 (B (4 * k))) := (hR.below.cell (p := ⟨b, off + 4 * k, none⟩) hb).trans (h.cell (4 * k) (by omega))
      have c1 : wr.cell? ⟨b, off + (4 * k + 1), none⟩ = some (.int .u8 (B (4 * k + 1))) := (hR.below.cell (p := ⟨b, off + (4 * k + 1), none⟩) hb).trans (h.cell (4 * k + 1) (by omega))
      have c2 : wr.cell? ⟨b, off + (4 * k + 2), none⟩ = some (.int .u8 (B (4 * k + 2))) := (hR.below.cell (p := ⟨b, off + (4 * k + 2), none⟩) hb).trans (h.cell (4 * k + 2) (by omega))
      have c3 : wr.cell? ⟨b, off + (4 * k + 3), none⟩ = some (.int .u8 (B (4 * k + 3))) := (hR.below.cell (p := ⟨b, off + (4 * k + 3), none⟩) hb).trans (h.cell (4 * k + 3) (by omega))
      have fz := hR.row.frozen k
      have cc := hR.row.cell (i := k) (by omega)
      simp only [Nat.lt_irrefl, if_false] at cc
      have HR : Hid (Two64 w wr (fun i => if i < k then sched B i else 0)) := hR
      clear hR
      go_wp2
      go_region
      go_wp2
      rw [be_spelt hB k]
      clear cc fz c0 c1 c2 c3
      go_roundg (16 - (k + 1))
      case measure => omega
      case rel =>
        refine ⟨k + 1, by omega, rfl, by go_num, ((HR.out.set k (be B k)).drew).congr (fun i _ => ?_)⟩
        by_cases e : i = k
        · subst e
          rw [if_pos rfl, if_pos (by omega), sched_low B hkn]
        · rw [if_neg e]
          by_cases e2 : i < k
          · rw [if_pos e2, if_pos (by omega)]
          · rw [if_neg e2, if_neg (by omega)]
    · have : k = 16 := by omega
      subst this
      go_wp2
      have HR : Hid (Two64 w wr (fun i => if i < 16 then sched B i else 0)) := hR
      clear hR
      go_loopg [5] 48 (fun g i wr => ∃ k : Nat, 16 ≤ k ∧ k ≤ 64 ∧ g = 64 - k ∧ i = .int .i64 k ∧ Two64 w wr (fun i => if i < k then sched B i else 0))
      case atStart => exact ⟨16, by omega, by omega, rfl, rfl, HR⟩
      case round =>
        clear HR
        obtain ⟨k, hk0, hk, rfl, rfl, hR⟩ := hrel
        by_cases hkn : k < 64
        · have c2 := hR.row.cell (i := k - 2) (by omega)
          have c7 := hR.row.cell (i := k - 7) (by omega)
          have c15 := hR.row.cell (i := k - 15) (by omega)
          have c16 := hR.row.cell (i := k - 16) (by omega)
          rw [if_pos (by omega)] at c2 c7 c15 c16
          have l2 := sched_lt hB (k - 2)
          have l7 := sched_lt hB (k - 7)
          have l15 := sched_lt hB (k - 15)
          have l16 := sched_lt hB (k - 16)
          have E := sched_high B hk0
          obtain ⟨x2, h2⟩ : ∃ x, x = sched B (k - 2) := ⟨_, rfl⟩
          obtain ⟨x7, h7⟩ : ∃ x, x = sched B (k - 7) := ⟨_, rfl⟩
          obtain ⟨x15, h15⟩ : ∃ x, x = sched B (k - 15) := ⟨_, rfl⟩
          obtain ⟨x16, h16⟩ : ∃ x, x = sched B (k - 16) := ⟨_, rfl⟩
          rw [← h2] at c2 l2
          rw [← h7] at c7 l7
          rw [← h15] at c15 l15
          rw [← h16] at c16 l16
          rw [← h2, ← h7, ← h15, ← h16] at E
          have H7 : Hid (x7 = sched B (k - 7) ∧ x16 = sched B (k - 16)) := ⟨h7, h16⟩
          clear h2 h7 h15 h16
          have HE : Hid (sched B k = wnew x2 x7 x15 x16) := E
          clear E
          have fz := hR.row.frozen k
          have cc := hR.row.cell (i := k) (by omega)
          simp only [Nat.lt_irrefl, if_false] at cc
          have HR : Hid (Two64 w wr (fun i => if i < k then sched B i else 0)) := hR
          clear hR
          go_wp2_with fail
          refine (turned_any _ x15 7 l15 (by omega) (by omega)).mono ?_
          rintro _ wq ⟨rfl, hq⟩
          replace HR := two64_drew HR hq
          clear hq
          go_wp2_with fail
          refine (turned_any _ x15 18 l15 (by omega) (by omega)).mono ?_
          rintro _ wq2 ⟨rfl, hq⟩
          replace HR := two64_drew HR hq
          clear hq
          go_wp2_with fail
          refine (turned_any _ x2 17 l2 (by omega) (by omega)).mono ?_
          rintro _ wq3 ⟨rfl, hq⟩
          replace HR := two64_drew HR hq
          clear hq
          go_wp2_with fail
          refine (turned_any _ x2 19 l2 (by omega) (by omega)).mono ?_
          rintro _ wp ⟨rfl, hq⟩
          replace HR := two64_drew HR hq
          clear hq
          go_wp2_with fail
          have c7' : wp.cell? ⟨w.heap.size + 1, k - 7, none⟩ = some (.int .u32 x7) := by
            have e := HR.out.row.cell (i := k - 7) (by omega)
            rw [if_pos (by omega), ← H7.out.1] at e
            exact e
          have c16' : wp.cell? ⟨w.heap.size + 1, k - 16, none⟩ = some (.int .u32 x16) := by
            have e := HR.out.row.cell (i := k - 16) (by omega)
            rw [if_pos (by omega), ← H7.out.2] at e
            exact e
          clear c2 c7 c15 c16 fz cc
          have fz := HR.out.row.frozen k
          have cc := HR.out.row.cell (i := k) (by omega)
          simp only [Nat.lt_irrefl, if_false] at cc
          rw [s0_spelt l15, s1_spelt l2]
          have m0 := s0_lt l15
          have m1 := s1_lt l2
          obtain ⟨y0, hy0⟩ : ∃ y, y = s0 x15 := ⟨_, rfl⟩
          obtain ⟨y1, hy1⟩ : ∃ y, y = s1 x2 := ⟨_, rfl⟩
          rw [← hy0] at m0 ⊢
          rw [← hy1] at m1 ⊢
          have Hy : Hid (y0 = s0 x15 ∧ y1 = s1 x2) := ⟨hy0, hy1⟩
          clear hy0 hy1
          go_wp2
          go_region
          go_wp2
          have V : ((y1 : Int) + (x7 : Int) + (y0 : Int) + (x16 : Int)) % 4294967296 = ((sched B k : Nat) : Int) := by
            rw [HE.out, Hy.out.1, Hy.out.2]
            simp only [wnew, M]
            omega
          rw [V]
          clear cc fz c7' c16'
          go_roundg (64 - (k + 1))
          case measure => omega
          case rel =>
            refine ⟨k + 1, by omega, by omega, rfl, by go_num, ((HR.out.set k (sched B k)).drew).congr (fun i _ => ?_)⟩
            by_cases e : i = k
            · subst e
              rw [if_pos rfl, if_pos (by omega)]
            · rw [if_neg e]
              by_cases e2 : i < k
              · rw [if_pos e2, if_pos (by omega)]
              · rw [if_neg e2, if_neg (by omega)]
        · have : k = 64 := by omega
          subst this
          obtain ⟨cs, hg, hsz, hcs⟩ := hR.row
          obtain ⟨os, og, osz, _⟩ := hR.out
          have hi : (Tryz.prog.info? 161).map (·.size) = some cs.size := by rw [hsz]; exact info62
          have h1 : cs.all (·.oneCell') = true := all_one (fun i hi => ⟨_, _, hcs i (by omega)⟩)
          have HR : Hid (Two64 w wr (fun i => if i < 64 then sched B i else 0)) := hR
          clear hR
          go_wp2_with (first
            | refine wpList_load_row rfl 161 (.tmp 3) rfl (w.heap.size + 1) rfl 161 cs (0, 0) _ hg Tryz.underlying161 rfl hi ?_
            | refine wpList_store_row rfl 161 (.tmp 2) (.tmp 92) rfl w.heap.size cs rfl rfl 161 os og hi (by omega) h1 ?_)
          refine bodyPost_ret (v := .agg cs) ?_ rfl ?_
          · exact results_cell_row rfl _ _ w.heap.size 161 cs (0, 0) _ rfl (setRow_heap _ _ _ _ _ _ og) Tryz.underlying161 rfl hi
          refine ⟨⟨cs, rfl, hsz, fun i hi => by rw [hcs i hi, if_pos hi]⟩, below_setRow HR.out.below (Nat.le_refl _) _⟩
end Go.Proofs.YtgglbjnfbfpiiaaGreatDoor.Dg
