import Derived.Test.YtpiinkfcaoaffaaUpEzz
/-
  path.Unpack of an odd form.
-/
namespace Go.Proofs.Ytpiinkfcaoaffaa
open Go.RowKit
set_option maxRecDepth 100000 in
set_option maxHeartbeats 1600000 in
theorem unpack_1 (w : World) (a : Option Addr) (b off c : Nat) (s : List Nat) (hv : Vw w a b off s) (hc : s.length ≤ c) (hp : IsF s) (ho : od s = 1) :
    Calls Try.prog 50 #[.slice a s.length c] w fun e w' => ∃ v, e = .returned (.tuple #[v, .bool (lf s), .int .i64 0]) ∧ Ans w w' v (upL s) := by
  have K := isForm_any w a b off c s hv
  rw [decide_eq_true hp] at K
  have K2 := plen_any w a b off c s hv hp.1
  have HB : Hid (∀ i, gd s i < 256) := fun i => gd_lt (vw_ok hv).2 i
  have HI : Hid (∀ x ∈ s, x < 256) := (vw_ok hv).2
  have hz : gd s 0 < 256 := HB.out 0
  have h64 := hp.2.1
  have hl : plen s ≤ 64 := hp.2.2.2
  have h0 := hp.1
  have ep : plen s = 2 * (s.length - 1) + 1 := by unfold plen; rw [ho]
  have HV : Hid (Vw w a b off s) := hv
  obtain rfl := hv.at_ h0
  have c0 : w.cell? ⟨b, off, none⟩ = some (.int .u8 ((gd s 0 : Nat) : Int)) := hv.cell 0 h0
  have hlt := hv.lt h0
  have HLF : Hid (lf s = decide (32 ≤ gd s 0)) := rfl
  have m16 := a16 (gd s 0) hz
  have eo : gd s 0 / 16 % 2 = 1 := ho
  rw [eo] at m16
  replace m16 : bits .and .u8 ((gd s 0 : Nat) : Int) 16 = 16 := m16
  have m32 := a32 (gd s 0) hz
  have HM : Hid (bits .and .u8 ((gd s 0 : Nat) : Int) 32 = ((32 * (gd s 0 / 32 % 2) : Nat) : Int)) := m32
  have HX0 : Hid (∀ y : Int, y = ((gd s 0 : Nat) : Int) % 16 → y = ((upY s 0 : Nat) : Int)) := fun y hy => by rw [hy, upY_zero ho]; omega
  obtain ⟨p, hpe⟩ : ∃ p, p = plen s := ⟨_, rfl⟩
  have HU : Hid (od s = 1 ∧ p = plen s) := ⟨ho, hpe⟩
  rw [← hpe] at hl K2 ep
  have l1 : p ≤ 2 * (s.length - 1) + 1 := by omega
  have l2 : 2 * (s.length - 1) + 1 ≤ p := by omega
  obtain ⟨n, en⟩ : ∃ n, n = s.length := ⟨_, rfl⟩
  obtain ⟨x, hx⟩ : ∃ x, x = gd s 0 := ⟨_, rfl⟩
  have HE : Hid (n = s.length) := en
  rw [← hx] at hz h64 c0 HLF m16 HM HX0
  rw [← en] at h0 l1 l2 K K2 hc ⊢
  have HW : Hid (View w (behind (some (⟨b, off, none⟩ : Addr)) c 1) b (off + 1) (n - 1) (fun i => ((gd s (1 + i) : Nat) : Int))) := by
    refine ⟨fun h => ?_, fun i hi => ?_, fun i hi => ?_, by omega⟩
    · unfold behind
      rw [if_neg (by omega)]
      rfl
    · have := HV.out.cell (1 + i) (by have := HE.out; omega)
      rw [Nat.add_assoc]
      exact this
    · have := HB.out (1 + i)
      omega
  obtain ⟨a', ha'⟩ : ∃ a', a' = behind (some (⟨b, off, none⟩ : Addr)) c 1 := ⟨_, rfl⟩
  have j1 : ∀ u, (Instr.slice 22 (.slice (some ⟨b, off, none⟩) n c) (some (.int .i64 1)) none none).run Try.prog u = .ok (.slice a' (n - 1) (c - 1)) u := fun u => by rw [ha']; exact slice_from _ n c 1 (by omega) u
  rw [← ha'] at HW
  clear hv hp ho en hx m32 eo ha' ep hpe
  have hmk := run_make_row' (P := Try.prog) 22 5 (.int .u8 0) 1 Try.underlying22 Try.info5 rfl .i64 .i64 p (by omega) (by omega)
  obtain ⟨a2, ha2⟩ : ∃ a2, a2 = behind (some (⟨w.heap.size, 0, none⟩ : Addr)) p 1 := ⟨_, rfl⟩
  have j2 : ∀ u, (Instr.slice 22 (.slice (some ⟨w.heap.size, 0, none⟩) p p) (some (.int .i64 1)) none none).run Try.prog u = .ok (.slice a2 (p - 1) (p - 1)) u := fun u => by rw [ha2]; exact slice_from _ p p 1 (by omega) u
  have HA2 : Hid (1 < n → a2 = some ⟨w.heap.size, 1, none⟩) := fun h => by
    rw [ha2]
    unfold behind
    rw [if_neg (by omega)]
    rfl
  clear ha2
  have s0 : (w.alloc (.cells (madeCells #[.int .u8 0] p) 5)).cell? ⟨w.heap.size, 0, none⟩ = some (.int .u8 0) := (NewRow.made w p).row.cell (i := 0) (by omega)
  have f0 : (w.alloc (.cells (madeCells #[.int .u8 0] p) 5)).frozen? ⟨w.heap.size, 0, none⟩ = false := (NewRow.made w p).row.frozen 0
  have d0 : (w.alloc (.cells (madeCells #[.int .u8 0] p) 5)).cell? ⟨b, off, none⟩ = some (.int .u8 (x : Int)) := (World.cell?_alloc_old _ _ _ (by show b ≠ w.heap.size; omega)).trans c0
  have HK : Hid (Calls Try.prog 56 #[.slice (some ⟨b, off, none⟩) n c] w fun e w' => e = .returned (.bool true) ∧ w' = w) := K
  have HK2 : Hid (Calls Try.prog 57 #[.slice (some ⟨b, off, none⟩) n c] w fun e w' => e = .returned (.int .i64 ((p : Nat) : Int)) ∧ w' = w) := K2
  have i1 : (0 : Int) < (n : Int) := by omega
  have i1b : 0 < n := by omega
  clear K K2
  go_enter Try.func50, Try.ntmps50
  go_wp2_with fail
  refine HK.out.mono ?_
  rintro e w1 ⟨rfl, rfl⟩
  go_wp2_with fail
  refine HK2.out.mono ?_
  rintro e w2 ⟨rfl, rfl⟩
  go_wp2_with fail
  have HN : Hid (NewRow w2 (w2.alloc (.cells ((madeCells #[.int .u8 0] p).setIfInBounds 0 (.int .u8 ((x : Int) % 16))) 5)) p (upZ s 0)) := upZ_odd HU.out.1 (HX0.out _ rfl)
  clear hmk d0 s0 f0
  go_loopg [31] (n - 1) (fun g i wr => ∃ k : Nat, k ≤ n - 1 ∧ g = n - 1 - k ∧ i = .int .i64 k ∧ NewRow w2 wr p (upZ s k))
  case atStart => exact ⟨0, Nat.zero_le _, rfl, rfl, HN.out⟩
  case round =>
    obtain ⟨k, hk, rfl, rfl, hR⟩ := hrel
    have HR : Hid (NewRow w2 wr p (upZ s k)) := hR
    clear HN
    by_cases hkn : k < n - 1
    · obtain rfl := HW.out.at_ (by omega)
      obtain rfl := HA2.out (by omega)
      have d1 : wr.cell? ⟨b, off + 1 + k, none⟩ = some (.int .u8 ((gd s (1 + k) : Nat) : Int)) := (hR.below.cell (p := ⟨b, off + 1 + k, none⟩) hlt).trans (HW.out.cell k hkn)
      have z1 : gd s (1 + k) < 256 := HB.out _
      have s1 := hR.row.cell (i := 1 + 2 * k) (by omega)
      have f1 := hR.row.frozen (1 + 2 * k)
      have s2 := hR.row.cell (i := 1 + (2 * k + 1)) (by omega)
      have f2 := hR.row.frozen (1 + (2 * k + 1))
      have HY : Hid (∀ y z : Int, y = ((gd s (1 + k) : Nat) : Int) / 16 → z = ((gd s (1 + k) : Nat) : Int) % 16 → NewRow w2 ((wr.setCell ⟨w2.heap.size, 1 + 2 * k, none⟩ (.int .u8 y)).setCell ⟨w2.heap.size, 1 + (2 * k + 1), none⟩ (.int .u8 z)) p (upZ s (k + 1))) := fun y z hy hz => upZ_step hR HU.out.1 (by omega) (by omega) (by rw [hy]; omega) (by rw [hz]; omega)
      obtain ⟨y, hy⟩ : ∃ y, y = gd s (1 + k) := ⟨_, rfl⟩
      rw [← hy] at d1 z1 HY
      obtain ⟨t1, ht1⟩ : ∃ t, t = upZ s k (1 + 2 * k) := ⟨_, rfl⟩
      obtain ⟨t2, ht2⟩ : ∃ t, t = upZ s k (1 + (2 * k + 1)) := ⟨_, rfl⟩
      rw [← ht1] at s1
      rw [← ht2] at s2
      clear hy ht1 ht2 hR
      have y0 : (0 : Int) ≤ (y : Int) := by omega
      have y1 : (y : Int) ≤ 255 := by omega
      have k1 : (k : Int) < ((n - 1 : Nat) : Int) := by omega
      have k2 : 2 * (k : Int) < ((p - 1 : Nat) : Int) := by omega
      have k3 : 2 * (k : Int) + 1 < ((p - 1 : Nat) : Int) := by omega
      go_wp2_with fail
      go_roundg (n - 1 - (k + 1))
      case measure => omega
      case rel => exact ⟨k + 1, by omega, rfl, by go_num, HY.out _ _ rfl rfl⟩
    · have : k = n - 1 := by omega
      subst this
      have i5 : ¬ ((n - 1 : Nat) : Int) < ((n - 1 : Nat) : Int) := by omega
      have d2 : wr.cell? ⟨b, off, none⟩ = some (.int .u8 (x : Int)) := (hR.below.cell (p := ⟨b, off, none⟩) hlt).trans c0
      have r : NewRow w2 wr p (upY s) := hR.congr (fun i hi => by unfold upZ; rw [HU.out.1, if_pos (by omega)])
      have HN : Hid (NewRow w2 wr p (upY s)) := r
      clear r hR
      by_cases q : 32 ≤ x
      · have m32 : bits .and .u8 (x : Int) 32 = 32 := by rw [HM.out, show x / 32 % 2 = 1 by omega]; rfl
        have el : lf s = true := by rw [HLF.out]; exact decide_eq_true q
        have HEL : Hid (lf s = true) := el
        clear el q
        go_wp2_with fail
        go_quiet (fail)
        go_wp2_with fail
        go_ret3
        refine ⟨_, by rw [HEL.out]; rfl, ?_⟩
        unfold upL
        rw [← HU.out.2]
        exact (HN.out.drewN _).ans (fun i _ => by have := nib_le HI.out (i + (2 - od s)); unfold upY; omega) (by omega)
      · have m32 : bits .and .u8 (x : Int) 32 = 0 := by rw [HM.out, show x / 32 % 2 = 0 by omega]; rfl
        have el : lf s = false := by rw [HLF.out]; exact decide_eq_false q
        have HEL : Hid (lf s = false) := el
        clear el q
        go_wp2_with fail
        go_quiet (fail)
        go_wp2_with fail
        go_ret3
        refine ⟨_, by rw [HEL.out]; rfl, ?_⟩
        unfold upL
        rw [← HU.out.2]
        exact (HN.out.drewN _).ans (fun i _ => by have := nib_le HI.out (i + (2 - od s)); unfold upY; omega) (by omega)
end Go.Proofs.Ytpiinkfcaoaffaa
