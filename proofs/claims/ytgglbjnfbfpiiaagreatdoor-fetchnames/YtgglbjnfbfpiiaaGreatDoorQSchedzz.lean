import Derived.Test.YtgglbjnfbfpiiaaGreatDoorQShazz
import Derived.BigRegion
import Derived.Laws.Rows
/-
  A block's sixty-four words: the program's way.
-/
namespace Go.Proofs.YtgglbjnfbfpiiaaGreatDoor.Dg
open Go.RowKit
def wcell (f : Nat → Nat) (i : Nat) : Value := .int .u32 (f i)
/-- two new blocks of sixty-four words: the answer's (zeros), and the table on its way -/
structure Two64 (w wr : World) (f : Nat → Nat) : Prop where
  below : Below w.heap.size w wr
  size : wr.heap.size = w.heap.size + 2
  out : wr.rowIs w.heap.size 161 64 (fun _ => .int .u32 0)
  row : wr.rowIs (w.heap.size + 1) 161 64 (fun i => .int .u32 (f i))
theorem Two64.set {w wr : World} {f : Nat → Nat} (h : Two64 w wr f) (i v : Nat) : Two64 w (wr.setCell ⟨w.heap.size + 1, i, none⟩ (.int .u32 v)) (fun j => if j = i then v else f j) :=
  ⟨h.below.setCell (Nat.le_succ _) _, by simp [h.size], h.out.setOther (by show w.heap.size ≠ w.heap.size + 1; omega) _, (h.row.set i _).congr (fun j _ => by split <;> rfl)⟩
theorem Two64.drewN {w wr : World} {f : Nat → Nat} (h : Two64 w wr f) (q : Nat) : Two64 w (wr.drewN q) f :=
  ⟨below_drewN h.below q, h.size, h.out.of_block rfl, h.row.of_block rfl⟩
theorem Two64.congr {w wr : World} {f g : Nat → Nat} (h : Two64 w wr f) (e : ∀ i, i < 64 → f i = g i) : Two64 w wr g :=
  ⟨h.below, h.size, h.out, h.row.congr (fun i hi => by rw [e i hi])⟩
theorem Two64.drew {w wr : World} {f : Nat → Nat} (h : Two64 w wr f) : Two64 w wr.drew f :=
  ⟨h.below.drew, h.size, h.out.drew, h.row.drew⟩
def Z64 : Array Value := #[.int .u32 0, .int .u32 0, .int .u32 0, .int .u32 0, .int .u32 0, .int .u32 0, .int .u32 0, .int .u32 0, .int .u32 0, .int .u32 0, .int .u32 0, .int .u32 0, .int .u32 0, .int .u32 0, .int .u32 0, .int .u32 0, .int .u32 0, .int .u32 0, .int .u32 0, .int .u32 0, .int .u32 0, .int .u32 0, .int .u32 0, .int .u32 0, .int .u32 0, .int .u32 0, .int .u32 0, .int .u32 0, .int .u32 0, .int .u32 0, .int .u32 0, .int .u32 0, .int .u32 0, .int .u32 0, .int .u32 0, .int .u32 0, .int .u32 0, .int .u32 0, .int .u32 0, .int .u32 0, .int .u32 0, .int .u32 0, .int .u32 0, .int .u32 0, .int .u32 0, .int .u32 0, .int .u32 0, .int .u32 0, .int .u32 0, .int .u32 0, .int .u32 0, .int .u32 0, .int .u32 0, .int .u32 0, .int .u32 0, .int .u32 0, .int .u32 0, .int .u32 0, .int .u32 0, .int .u32 0, .int .u32 0, .int .u32 0, .int .u32 0, .int .u32 0]
theorem Z64_rep : Z64 = Array.replicate 64 (.int .u32 0) := by rfl
theorem zeros_row (w : World) (z : Value) (n t : Nat) : (w.alloc (.cells (Array.replicate n z) t)).rowIs w.heap.size t n (fun _ => z) := by
  have h := World.rowIs_alloc w (Array.replicate n z) t (fun _ => z) (fun i hi => by rw [Array.size_replicate] at hi; simp [hi])
  rwa [Array.size_replicate] at h
theorem two64_start (w : World) : Two64 w ((w.alloc (.cells Z64 161)).alloc (.cells Z64 161)) (fun _ => 0) := by
  rw [Z64_rep]
  refine ⟨((Below.refl _ _).alloc (Nat.le_refl _) _).alloc (by simp) _, by simp, (zeros_row w _ 64 161).alloc _, ?_⟩
  have h := zeros_row (w.alloc (.cells (Array.replicate 64 (.int .u32 0)) 161)) (.int .u32 0) 64 161
  rwa [World.size_alloc] at h
theorem sh24 {x : Nat} (h : x < 256) : (x : Int) % (4294967296 : Int) * (16777216 : Int) % (4294967296 : Int) = ((x <<< 24 : Nat) : Int) := by rw [Nat.shiftLeft_eq]; omega
theorem sh16 {x : Nat} (h : x < 256) : (x : Int) % (4294967296 : Int) * (65536 : Int) % (4294967296 : Int) = ((x <<< 16 : Nat) : Int) := by rw [Nat.shiftLeft_eq]; omega
theorem sh8 {x : Nat} (h : x < 256) : (x : Int) % (4294967296 : Int) * (256 : Int) % (4294967296 : Int) = ((x <<< 8 : Nat) : Int) := by rw [Nat.shiftLeft_eq]; omega
theorem sh0 {x : Nat} (h : x < 256) : (x : Int) % (4294967296 : Int) = (x : Int) := by omega
theorem shl_lt {x : Nat} (n : Nat) (hx : x < 256) (hn : n ≤ 24) : x <<< n < 4294967296 := by
  rw [Nat.shiftLeft_eq]
  calc x * 2 ^ n < 2 ^ 8 * 2 ^ n := Nat.mul_lt_mul_of_pos_right (by simpa using hx) (Nat.two_pow_pos n)
    _ = 2 ^ (8 + n) := by rw [Nat.pow_add]
    _ ≤ 2 ^ 32 := Nat.pow_le_pow_right (by decide) (by omega)
theorem or_lt {x y : Nat} (h : x < 4294967296) (g : y < 4294967296) : x ||| y < 4294967296 := Nat.or_lt_two_pow (n := 32) h g
theorem be_spelt {B : Nat → Nat} (hB : ∀ i, B i < 256) (k : Nat) :
    bits .or .u32 (bits .or .u32 (bits .or .u32 ((B (4 * k) : Int) % 4294967296 * 16777216 % 4294967296) ((B (4 * k + 1) : Int) % 4294967296 * 65536 % 4294967296)) ((B (4 * k + 2) : Int) % 4294967296 * 256 % 4294967296)) ((B (4 * k + 3) : Int) % 4294967296) = ((be B k : Nat) : Int) := by
  have a0 := shl_lt 24 (hB (4 * k)) (by omega)
  have a1 := shl_lt 16 (hB (4 * k + 1)) (by omega)
  have a2 := shl_lt 8 (hB (4 * k + 2)) (by omega)
  have a3 := hB (4 * k + 3)
  rw [sh24 (hB _), sh16 (hB _), sh8 (hB _), sh0 (hB _), u32_or_nat _ _ a0 a1, u32_or_nat _ _ (or_lt a0 a1) a2, u32_or_nat _ _ (or_lt (or_lt a0 a1) a2) (by omega)]
  rfl
theorem xor_lt {x y : Nat} (h : x < 4294967296) (g : y < 4294967296) : x ^^^ y < 4294967296 := Nat.xor_lt_two_pow (n := 32) h g
theorem s0_spelt {x : Nat} (h : x < 4294967296) : bits .xor .u32 (bits .xor .u32 ((rot x 7 : Nat) : Int) ((rot x 18 : Nat) : Int)) ((x : Int) / 8) = ((s0 x : Nat) : Int) := by
  have e : (x : Int) / (8 : Int) = ((x >>> 3 : Nat) : Int) := by rw [Nat.shiftRight_eq_div_pow]; omega
  have l : x >>> 3 < 4294967296 := by rw [Nat.shiftRight_eq_div_pow]; omega
  rw [e, u32_xor_nat _ _ (rot_lt 7 h) (rot_lt 18 h), u32_xor_nat _ _ (xor_lt (rot_lt 7 h) (rot_lt 18 h)) l]
  rfl
theorem s0_lt {x : Nat} (h : x < 4294967296) : s0 x < 4294967296 := by
  have l : x >>> 3 < 4294967296 := by rw [Nat.shiftRight_eq_div_pow]; omega
  exact xor_lt (xor_lt (rot_lt 7 h) (rot_lt 18 h)) l
theorem s1_lt {x : Nat} (h : x < 4294967296) : s1 x < 4294967296 := by
  have l : x >>> 10 < 4294967296 := by rw [Nat.shiftRight_eq_div_pow]; omega
  exact xor_lt (xor_lt (rot_lt 17 h) (rot_lt 19 h)) l
theorem info62 : (Tryz.prog.info? 161).map (·.size) = some 64 := by kernel_rfl
theorem all_one {cs : Array Value} (h : ∀ i, i < cs.size → ∃ k v, cs[i]? = some (.int k v)) : cs.all (·.oneCell') = true := by
  rw [Array.all_eq_true_iff_forall_mem]
  intro v hv
  obtain ⟨i, hi, rfl⟩ := Array.getElem_of_mem hv
  obtain ⟨k, x, e⟩ := h i hi
  rw [Array.getElem?_eq_getElem hi] at e
  rw [Option.some.inj e]
  rfl
theorem below_setRow {B g : Nat} {w w' : World} (h : Below B w w') (hg : B ≤ g) (cs : Array Value) : Below B w (w'.setRow g cs) :=
  ⟨h.os, h.tape, h.output, by simp; exact h.size, fun i hi => (setRow_other w' g i cs (by omega)).trans (h.block i hi)⟩
theorem s1_spelt {x : Nat} (h : x < 4294967296) : bits .xor .u32 (bits .xor .u32 ((rot x 17 : Nat) : Int) ((rot x 19 : Nat) : Int)) ((x : Int) / 1024) = ((s1 x : Nat) : Int) := by
  have e : (x : Int) / (1024 : Int) = ((x >>> 10 : Nat) : Int) := by rw [Nat.shiftRight_eq_div_pow]; omega
  have l : x >>> 10 < 4294967296 := by rw [Nat.shiftRight_eq_div_pow]; omega
  rw [e, u32_xor_nat _ _ (rot_lt 17 h) (rot_lt 19 h), u32_xor_nat _ _ (xor_lt (rot_lt 17 h) (rot_lt 19 h)) l]
  rfl
set_option maxRecDepth 100000 in
set_option maxHeartbeats 8000000 in
theorem sched_any (w : World) (a : Option Addr) (b off c : Nat) (B : Nat → Nat) (h : View w a b off 64 (fun i => (B i : Int))) (hB : ∀ i, B i < 256) :
    Calls Tryz.prog 113 #[.slice a 64 c] w fun e w' => (∃ cs : Array Value, e = .returned (.agg cs) ∧ cs.size = 64 ∧ ∀ i, i < 64 → cs[i]? = some (.int .u32 (sched B i))) ∧ Below w.heap.size w w' := by
  obtain rfl := h.at_ (by omega)
  have hb := h.lt (by omega)
  go_enter Tryz.func113, Tryz.ntmps113
  go_wp2
  go_loopg [8] 16 (fun g i wr => ∃ k : Nat, k ≤ 16 ∧ g = 16 - k ∧ i = .int .i64 k ∧ Two64 w wr (fun i => if i < k then sched B i else 0))
  case atStart => exact ⟨0, by omega, rfl, rfl, (two64_start w).congr (fun i _ => by simp)⟩
  case round =>
    obtain ⟨k, hk, rfl, rfl, hR⟩ := hrel
    by_cases hkn : k < 16
    · have c0 : wr.cell? ⟨b, off + 4 * k, none⟩ = some (.int .u8 (B (4 * k))) := (hR.below.cell (p := ⟨b, off + 4 * k, none⟩) hb).trans (h.cell (4 * k) (by omega))
      have c1 : wr.cell? ⟨b, off + (4 * k + 1), none⟩ = some (.int .u8 (B (4 * k + 1))) := (hR.below.cell (p := ⟨b, off + (4 * k + 1), none⟩) hb).trans (h.cell (4 * k + 1) (by omega))
      have c2 : wr.cell? ⟨b, off + (4 * k + 2), none⟩ = some (.int .u8 (B (4 * k + 2))) := (hR.below.cell (p := ⟨b, off + (4 * k + 2), none⟩) hb).trans (h.cell (4 * k + 2) (by omega))
      have c3 : wr.cell? ⟨b, off + (4 * k + 3), none⟩ = some (.int .u8 (B (4 * k + 3))) := (hR.below.cell (p := ⟨b, off + (4 * k + 3), none⟩) hb).trans (h.cell (4 * k + 3) (by omega))
      have fz := hR.row.frozen k
      have cc := hR.row.cell (i := k) (by omega)
      simp only [Nat.lt_irrefl, if_false] at cc
      have HR : Hid (Two64 w wr (fun i => if i < k then sched B i else 0)) := hR
      clear hR
      go_wp2
      go_region
      go_wp2
      rw [be_spelt hB k]
      clear cc fz c0 c1 c2 c3
      go_roundg (16 - (k + 1))
      case measure => omega
      case rel =>
        refine ⟨k + 1, by omega, rfl, by go_num, ((HR.out.set k (be B k)).drew).congr (fun i _ => ?_)⟩
        by_cases e : i = k
        · subst e
          rw [if_pos rfl, if_pos (by omega), sched_low B hkn]
        · rw [if_neg e]
          by_cases e2 : i < k
          · rw [if_pos e2, if_pos (by omega)]
          · rw [if_neg e2, if_neg (by omega)]
    · have : k = 16 := by omega
      subst this
      go_wp2
      have HR : Hid (Two64 w wr (fun i => if i < 16 then sched B i else 0)) := hR
      clear hR
      go_loopg [5] 48 (fun g i wr => ∃ k : Nat, 16 ≤ k ∧ k ≤ 64 ∧ g = 64 - k ∧ i = .int .i64 k ∧ Two64 w wr (fun i => if i < k then sched B i else 0))
      case atStart => exact ⟨16, by omega, by omega, rfl, rfl, HR⟩
      case round =>
        clear HR
        obtain ⟨k, hk0, hk, rfl, rfl, hR⟩ := hrel
        by_cases hkn : k < 64
        · have c2 := hR.row.cell (i := k - 2) (by omega)
          have c7 := hR.row.cell (i := k - 7) (by omega)
          have c15 := hR.row.cell (i := k - 15) (by omega)
          have c16 := hR.row.cell (i := k - 16) (by omega)
          rw [if_pos (by omega)] at c2 c7 c15 c16
          have l2 := sched_lt hB (k - 2)
          have l7 := sched_lt hB (k - 7)
          have l15 := sched_lt hB (k - 15)
          have l16 := sched_lt hB (k - 16)
          have E := sched_high B hk0
          obtain ⟨x2, h2⟩ : ∃ x, x = sched B (k - 2) := ⟨_, rfl⟩
          obtain ⟨x7, h7⟩ : ∃ x, x = sched B (k - 7) := ⟨_, rfl⟩
          obtain ⟨x15, h15⟩ : ∃ x, x = sched B (k - 15) := ⟨_, rfl⟩
          obtain ⟨x16, h16⟩ : ∃ x, x = sched B (k - 16) := ⟨_, rfl⟩
          rw [← h2] at c2 l2
          rw [← h7] at c7 l7
          rw [← h15] at c15 l15
          rw [← h16] at c16 l16
          rw [← h2, ← h7, ← h15, ← h16] at E
          clear h2 h7 h15 h16
          have HE : Hid (sched B k = wnew x2 x7 x15 x16) := E
          clear E
          have fz := hR.row.frozen k
          have cc := hR.row.cell (i := k) (by omega)
          simp only [Nat.lt_irrefl, if_false] at cc
          have HR : Hid (Two64 w wr (fun i => if i < k then sched B i else 0)) := hR
          clear hR
          go_wp2
          refine wp_region_quiet_lit (by kernel_rfl) (by kernel_rfl) ?_
          repeat (go_big_quiet_step (fail))
          go_big_quiet_step (first | (go_at_call 114; refine Calls.quiet_of_same (rotR_any _ x15 7 l15 (by omega) (by omega))))
          repeat (go_big_quiet_step (fail))
          go_big_quiet_step (first | (go_at_call 114; refine Calls.quiet_of_same (rotR_any _ x15 18 l15 (by omega) (by omega))))
          repeat (go_big_quiet_step (fail))
          refine wpQuiet_nil ?_
          intro wz hwz
          obtain ⟨nq, rfl⟩ := hwz
          obtain ⟨wq, hwq⟩ : ∃ x, x = wr.drewN nq := ⟨_, rfl⟩
          rw [← hwq]
          have d2 : wq.cell? ⟨w.heap.size + 1, k - 2, none⟩ = some (.int .u32 x2) := by rw [hwq]; exact c2
          have d7 : wq.cell? ⟨w.heap.size + 1, k - 7, none⟩ = some (.int .u32 x7) := by rw [hwq]; exact c7
          have d16 : wq.cell? ⟨w.heap.size + 1, k - 16, none⟩ = some (.int .u32 x16) := by rw [hwq]; exact c16
          have HQ : Hid (Two64 w wq (fun i => if i < k then sched B i else 0)) := by rw [hwq]; exact HR.out.drewN nq
          clear hwq c2 c7 c15 c16 HR fz cc
          go_wp2
          refine wp_region_quiet_lit (by kernel_rfl) (by kernel_rfl) ?_
          repeat (go_big_quiet_step (fail))
          go_big_quiet_step (first | (go_at_call 114; refine Calls.quiet_of_same (rotR_any _ x2 17 l2 (by omega) (by omega))))
          repeat (go_big_quiet_step (fail))
          go_big_quiet_step (first | (go_at_call 114; refine Calls.quiet_of_same (rotR_any _ x2 19 l2 (by omega) (by omega))))
          repeat (go_big_quiet_step (fail))
          refine wpQuiet_nil ?_
          intro wz hwz
          obtain ⟨nq, rfl⟩ := hwz
          go_wp2
          obtain ⟨wp, hwp⟩ : ∃ x, x = wq.drewN nq := ⟨_, rfl⟩
          rw [← hwp]
          have c7 : wp.cell? ⟨w.heap.size + 1, k - 7, none⟩ = some (.int .u32 x7) := by rw [hwp]; exact d7
          have c16 : wp.cell? ⟨w.heap.size + 1, k - 16, none⟩ = some (.int .u32 x16) := by rw [hwp]; exact d16
          have HR : Hid (Two64 w wp (fun i => if i < k then sched B i else 0)) := by rw [hwp]; exact HQ.out.drewN nq
          clear hwp d2 d7 d16 HQ
          have fz := HR.out.row.frozen k
          have cc := HR.out.row.cell (i := k) (by omega)
          simp only [Nat.lt_irrefl, if_false] at cc
          rw [s0_spelt l15, s1_spelt l2]
          have m0 := s0_lt l15
          have m1 := s1_lt l2
          obtain ⟨y0, hy0⟩ : ∃ y, y = s0 x15 := ⟨_, rfl⟩
          obtain ⟨y1, hy1⟩ : ∃ y, y = s1 x2 := ⟨_, rfl⟩
          rw [← hy0] at m0 ⊢
          rw [← hy1] at m1 ⊢
          have Hy : Hid (y0 = s0 x15 ∧ y1 = s1 x2) := ⟨hy0, hy1⟩
          clear hy0 hy1
          go_wp2
          go_region
          go_wp2
          have V : ((y1 : Int) + (x7 : Int) + (y0 : Int) + (x16 : Int)) % 4294967296 = ((sched B k : Nat) : Int) := by
            rw [HE.out, Hy.out.1, Hy.out.2]
            simp only [wnew, M]
            omega
          rw [V]
          clear cc fz c7 c16
          go_roundg (64 - (k + 1))
          case measure => omega
          case rel =>
            refine ⟨k + 1, by omega, by omega, rfl, by go_num, ((HR.out.set k (sched B k)).drew).congr (fun i _ => ?_)⟩
            by_cases e : i = k
            · subst e
              rw [if_pos rfl, if_pos (by omega)]
            · rw [if_neg e]
              by_cases e2 : i < k
              · rw [if_pos e2, if_pos (by omega)]
              · rw [if_neg e2, if_neg (by omega)]
        · have : k = 64 := by omega
          subst this
          obtain ⟨cs, hg, hsz, hcs⟩ := hR.row
          obtain ⟨os, og, osz, _⟩ := hR.out
          have hi : (Tryz.prog.info? 161).map (·.size) = some cs.size := by rw [hsz]; exact info62
          have h1 : cs.all (·.oneCell') = true := all_one (fun i hi => ⟨_, _, hcs i (by omega)⟩)
          have HR : Hid (Two64 w wr (fun i => if i < 64 then sched B i else 0)) := hR
          clear hR
          go_wp2_with (first
            | refine wpList_load_row rfl 161 (.tmp 3) rfl (w.heap.size + 1) rfl 161 cs (0, 0) _ hg Tryz.underlying161 rfl hi ?_
            | refine wpList_store_row rfl 161 (.tmp 2) (.tmp 100) rfl w.heap.size cs rfl rfl 161 os og hi (by omega) h1 ?_)
          refine bodyPost_ret (v := .agg cs) ?_ rfl ?_
          · exact results_cell_row rfl _ _ w.heap.size 161 cs (0, 0) _ rfl (setRow_heap _ _ _ _ _ _ og) Tryz.underlying161 rfl hi
          refine ⟨⟨cs, rfl, hsz, fun i hi => by rw [hcs i hi, if_pos hi]⟩, below_setRow HR.out.below (Nat.le_refl _) _⟩
end Go.Proofs.YtgglbjnfbfpiiaaGreatDoor.Dg
