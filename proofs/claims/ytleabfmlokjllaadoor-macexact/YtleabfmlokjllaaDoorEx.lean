/-
  MacExact: the law.
-/
import Derived.Test.YtleabfmlokjllaaDoorExD
namespace Go.Proofs.YtleabfmlokjllaaDoor
open Go.RowKit

/-- A SCRIPT IN MEMORY. -/
structure Scr (w : World) (sa : Option Addr) (sb so N : Nat) (Ki Wi : Nat → Int) (BA : Nat → Option Addr) (bB bO bM bC : Nat → Nat) (BY : Nat → Nat → Nat) : Prop where
  at_ : 0 < N → sa = some ⟨sb, so, none⟩
  c0 : ∀ i, i < N → w.cell? ⟨sb, so + i * 3, none⟩ = some (.int .i64 (Ki i))
  c1 : ∀ i, i < N → w.cell? ⟨sb, so + (i * 3 + 1), none⟩ = some (.int .i64 (Wi i))
  c2 : ∀ i, i < N → w.cell? ⟨sb, so + (i * 3 + 2), none⟩ = some (.slice (BA i) (bM i) (bC i))
  view : ∀ i, i < N → View w (BA i) (bB i) (bO i) (min (bM i) 400) (fun j => (BY i j : Int))
  cap : ∀ i, i < N → bM i ≤ bC i
  nil : ∀ i, i < N → BA i = none → bC i = 0
  bd : ∀ i j, BY i j < 256

theorem tb_start (W : World) : Tb W.heap.size (W.alloc (.cells #[.pointer none, .pointer none, .pointer none, .slice none 0 0, .slice none 0 0, .slice none 0 0, .slice none 0 0, .slice none 0 0, .slice none 0 0] 46)) W.heap.size 0 0 (fun _ => ⟨0, none, 0, 0, 0, fun _ => 0, none, 0, 0, 0, fun _ => 0⟩) := by
  refine ⟨⟨_, World.rowIs_alloc W #[.pointer none, .pointer none, .pointer none, .slice none 0 0, .slice none 0 0, .slice none 0 0, .slice none 0 0, .slice none 0 0, .slice none 0 0] 46 (fun i => if i < 3 then .pointer none else .slice none 0 0) (fun i hi => ?_), fun j hj => absurd hj (by omega)⟩, Nat.le_refl _, fun j hj => absurd hj (by omega), fun j hj => absurd hj (by omega), fun j hj => absurd hj (by omega), fun i j hi => absurd hi (by omega), fun i j hi => absurd hi (by omega), fun j hj => absurd hj (by omega)⟩
  have h9 : i < 9 := hi
  match i, h9 with
  | 0, _ => rfl
  | 1, _ => rfl
  | 2, _ => rfl
  | 3, _ => rfl
  | 4, _ => rfl
  | 5, _ => rfl
  | 6, _ => rfl
  | 7, _ => rfl
  | 8, _ => rfl

set_option maxRecDepth 100000 in
set_option maxHeartbeats 1600000 in
theorem exact_law (W : World) (sa : Option Addr) (sb so N cap : Nat) (Ki Wi : Nat → Int) (BA : Nat → Option Addr) (bB bO bM bC : Nat → Nat) (BY : Nat → Nat → Nat) (P : Scr W sa sb so N Ki Wi BA bB bO bM bC BY) (hG : Gr W) (g2 : 1 < W.heap.size) :
    Calls Tryd.prog 6 #[.slice sa N cap] W fun e w' => e = .returned (.bool true) ∧ Below W.heap.size W w' := by
  have HP : Hid (Scr W sa sb so N Ki Wi BA bB bO bM bC BY ∧ Gr W) := ⟨P, hG⟩
  have H1 : Hid (Tb W.heap.size (W.alloc (.cells #[.pointer none, .pointer none, .pointer none, .slice none 0 0, .slice none 0 0, .slice none 0 0, .slice none 0 0, .slice none 0 0, .slice none 0 0] 46)) W.heap.size 0 0 (fun _ => ⟨0, none, 0, 0, 0, fun _ => 0, none, 0, 0, 0, fun _ => 0⟩) ∧ Below W.heap.size W (W.alloc (.cells #[.pointer none, .pointer none, .pointer none, .slice none 0 0, .slice none 0 0, .slice none 0 0, .slice none 0 0, .slice none 0 0, .slice none 0 0] 46))) := ⟨tb_start W, (Below.refl _ _).alloc (Nat.le_refl _) _⟩
  clear P hG
  go_enter Tryd.func6, Tryd.ntmps6
  go_wp2_with fail
  go_loopg [4] 3 (fun g v wr => ∃ k : Nat, k ≤ 3 ∧ g = 3 - k ∧ v = .int .i64 k ∧ ∃ K, Tb W.heap.size wr W.heap.size k (400 * k) K ∧ Below W.heap.size W wr)
  case atStart => exact ⟨0, by omega, rfl, rfl, _, H1.out.1, H1.out.2⟩
  case round =>
    obtain ⟨k, hk, rfl, rfl, K, tb, bw⟩ := hrel
    clear H1
    by_cases hk3 : k < 3
    · have bA : Below wr.heap.size wr (wr.alloc (.cells #[.int .u8 (k : Int)] 5)) := (Below.refl _ _).alloc (Nat.le_refl _) _
      have vA := view_new1 wr (k : Int) (by omega) (by omega)
      have tl := tb.lt
      have cp := plays_k1 W.heap.size (wr.alloc (.cells #[.int .u8 (k : Int)] 5)) W.heap.size k (400 * k) K (tb.below bA) (k : Int) k (by omega) (some ⟨wr.heap.size, 0, none⟩) wr.heap.size 0 1 1 (fun _ => k) vA (fun _ => by omega) (fun h => by cases h) (Nat.le_refl _) (fun _ => ⟨by omega, fun j hj => by have := tb.ltp j hj; omega⟩) (HP.out.2.below (bw.trans (bA.mono bw.size))) (by omega) (by omega)
      have HB : Hid (Below W.heap.size W (wr.alloc (.cells #[.int .u8 (k : Int)] 5))) := bw.trans (bA.mono bw.size)
      have k1 : (k : Int) < 3 := by omega
      have k2 : (0 : Int) ≤ (k : Int) := by omega
      have k3 : (k : Int) ≤ 255 := by omega
      clear tb bw bA vA
      go_wp2_with fail
      refine cp.mono ?_
      rintro _ w2 ⟨rfl, K', tb2, bw2⟩
      rw [show max k (k + 1) = k + 1 by omega] at tb2
      have HN : Hid (Tb W.heap.size w2 W.heap.size (k + 1) (400 * (k + 1)) K' ∧ Below W.heap.size W w2) := ⟨tb2.more (by omega), HB.out.trans bw2⟩
      clear tb2 bw2 HB cp
      go_wp2_with fail
      go_roundg (3 - (k + 1))
      case measure => omega
      case rel => exact ⟨k + 1, by omega, rfl, by go_num, K', HN.out.1, HN.out.2⟩
    · have : k = 3 := by omega
      subst this
      have H2 : Hid (Tb W.heap.size wr W.heap.size 3 1200 K ∧ Below W.heap.size W wr) := ⟨tb, bw⟩
      clear tb bw hk3
      go_wp2_with fail
      go_loopg [6] 80 (fun g v wr => ∃ i : Nat, i ≤ 80 ∧ i ≤ N ∧ g = 80 - i ∧ v = .int .i64 i ∧ ∃ K, Tb W.heap.size wr W.heap.size 3 (1200 + 400 * i) K ∧ Below W.heap.size W wr)
      case atStart => exact ⟨0, by omega, by omega, rfl, rfl, _, H2.out.1, H2.out.2⟩
      case round =>
        obtain ⟨i, hi, hiN, rfl, rfl, K, tb, bw⟩ := hrel
        clear H2
        by_cases hgo : i < N ∧ i < 80
        · obtain ⟨h1, h2⟩ := hgo
          obtain rfl := HP.out.1.at_ (by omega)
          have c0 : wr.cell? ⟨sb, so + i * 3, none⟩ = some (.int .i64 (Ki i)) := (bw.cell (p := ⟨sb, so + i * 3, none⟩) (World.block_lt_of_cell? _ _ (HP.out.1.c0 i h1))).trans (HP.out.1.c0 i h1)
          have c1 : wr.cell? ⟨sb, so + i * 3 + 1, none⟩ = some (.int .i64 (Wi i)) := (bw.cell (p := ⟨sb, so + (i * 3 + 1), none⟩) (World.block_lt_of_cell? _ _ (HP.out.1.c1 i h1))).trans (HP.out.1.c1 i h1)
          have c2 : wr.cell? ⟨sb, so + i * 3 + 2, none⟩ = some (.slice (BA i) (bM i) (bC i)) := (bw.cell (p := ⟨sb, so + (i * 3 + 2), none⟩) (World.block_lt_of_cell? _ _ (HP.out.1.c2 i h1))).trans (HP.out.1.c2 i h1)
          have vi : View wr (BA i) (bB i) (bO i) (min (bM i) 400) (fun j => (BY i j : Int)) := (HP.out.1.view i h1).below bw
          have cp := plays_any W.heap.size wr W.heap.size (1200 + 400 * i) K tb (Ki i) (Wi i) (BA i) (bB i) (bO i) (bM i) (bC i) (BY i) vi (HP.out.1.bd i) (HP.out.1.nil i h1) (HP.out.1.cap i h1) (fun h0 => by
            have lb := (HP.out.1.view i h1).lt (by omega)
            exact ⟨by omega, fun j hj => by have := tb.lo j hj; omega⟩) (HP.out.2.below bw) g2 (by omega)
          have HB : Hid (Below W.heap.size W wr) := bw
          have k1 : (i : Int) < (N : Int) := by omega
          have k2 : (i : Int) < 80 := by omega
          clear tb bw vi
          go_wp2_with fail
          refine cp.mono ?_
          rintro _ w2 ⟨rfl, K', tb2, bw2⟩
          have HN : Hid (Tb W.heap.size w2 W.heap.size 3 (1200 + 400 * (i + 1)) K' ∧ Below W.heap.size W w2) := ⟨tb2.more (by omega), HB.out.trans bw2⟩
          clear tb2 bw2 HB cp c0 c1 c2
          go_wp2_with fail
          go_roundg (80 - (i + 1))
          case measure => omega
          case rel => exact ⟨i + 1, by omega, by omega, rfl, by go_num, K', HN.out.1, HN.out.2⟩
        · have H3 : Hid (Tb W.heap.size wr W.heap.size 3 34000 K ∧ Below W.heap.size W wr) := ⟨tb.more (by omega), bw⟩
          have hor : (N : Int) ≤ (i : Int) ∨ ((i : Int) < (N : Int) ∧ (80 : Int) ≤ (i : Int)) := by omega
          clear tb bw hgo
          rcases hor with hor | ⟨hor, hor2⟩
          · go_wp2_with fail
            go_loopg [8] 3 (fun g v wr => ∃ k : Nat, k ≤ 3 ∧ g = 3 - k ∧ v = .int .i64 k ∧ ∃ K, Tb W.heap.size wr W.heap.size 3 (34000 + 400 * k) K ∧ Below W.heap.size W wr)
            case atStart => exact ⟨0, by omega, rfl, rfl, _, H3.out.1, H3.out.2⟩
            case round =>
              obtain ⟨k, hk, rfl, rfl, K, tb, bw⟩ := hrel
              clear H3
              by_cases hk3 : k < 3
              · have cp := plays_any W.heap.size wr W.heap.size (34000 + 400 * k) K tb 3 (k : Int) none 0 0 0 0 (fun _ => 0) (view_empty _ _ _ _ _ _ rfl) (fun _ => by decide) (fun _ => rfl) (Nat.le_refl _) (fun h0 => absurd h0 (by omega)) (HP.out.2.below bw) g2 (by omega)
                have HB : Hid (Below W.heap.size W wr) := bw
                have k1 : (k : Int) < 3 := by omega
                clear tb bw
                go_wp2_with fail
                refine cp.mono ?_
                rintro _ w2 ⟨rfl, K', tb2, bw2⟩
                have HN : Hid (Tb W.heap.size w2 W.heap.size 3 (34000 + 400 * (k + 1)) K' ∧ Below W.heap.size W w2) := ⟨tb2.more (by omega), HB.out.trans bw2⟩
                clear tb2 bw2 HB cp
                go_wp2_with fail
                go_roundg (3 - (k + 1))
                case measure => omega
                case rel => exact ⟨k + 1, by omega, rfl, by go_num, K', HN.out.1, HN.out.2⟩
              · have HF : Hid (Below W.heap.size W wr) := bw
                have k1 : (3 : Int) ≤ (k : Int) := by omega
                clear tb bw
                go_wp2_with fail
                go_ret
                exact ⟨rfl, HF.out⟩
          · go_wp2_with fail
            go_loopg [8] 3 (fun g v wr => ∃ k : Nat, k ≤ 3 ∧ g = 3 - k ∧ v = .int .i64 k ∧ ∃ K, Tb W.heap.size wr W.heap.size 3 (34000 + 400 * k) K ∧ Below W.heap.size W wr)
            case atStart => exact ⟨0, by omega, rfl, rfl, _, H3.out.1, H3.out.2⟩
            case round =>
              obtain ⟨k, hk, rfl, rfl, K, tb, bw⟩ := hrel
              clear H3
              by_cases hk3 : k < 3
              · have cp := plays_any W.heap.size wr W.heap.size (34000 + 400 * k) K tb 3 (k : Int) none 0 0 0 0 (fun _ => 0) (view_empty _ _ _ _ _ _ rfl) (fun _ => by decide) (fun _ => rfl) (Nat.le_refl _) (fun h0 => absurd h0 (by omega)) (HP.out.2.below bw) g2 (by omega)
                have HB : Hid (Below W.heap.size W wr) := bw
                have k1 : (k : Int) < 3 := by omega
                clear tb bw
                go_wp2_with fail
                refine cp.mono ?_
                rintro _ w2 ⟨rfl, K', tb2, bw2⟩
                have HN : Hid (Tb W.heap.size w2 W.heap.size 3 (34000 + 400 * (k + 1)) K' ∧ Below W.heap.size W w2) := ⟨tb2.more (by omega), HB.out.trans bw2⟩
                clear tb2 bw2 HB cp
                go_wp2_with fail
                go_roundg (3 - (k + 1))
                case measure => omega
                case rel => exact ⟨k + 1, by omega, rfl, by go_num, K', HN.out.1, HN.out.2⟩
              · have HF : Hid (Below W.heap.size W wr) := bw
                have k1 : (3 : Int) ≤ (k : Int) := by omega
                clear tb bw
                go_wp2_with fail
                go_ret
                exact ⟨rfl, HF.out⟩
end Go.Proofs.YtleabfmlokjllaaDoor
