import Derived.Test.YtpiinkfcaoaffaaUpEzy
/-
  path.Pack of an odd path.
-/
namespace Go.Proofs.Ytpiinkfcaoaffaa
open Go.RowKit
set_option maxRecDepth 100000 in
set_option maxHeartbeats 1600000 in
theorem pack_1f (w : World) (a : Option Addr) (b off c : Nat) (s : List Nat) (hv : Vw w a b off s) (hc : s.length ≤ c) (hp : IsP s) (ho : s.length % 2 = 1) :
    Calls Try.prog 32 #[.slice a s.length c, .bool false] w fun e w' => ∃ v, e = .returned (.tuple #[v, .int .i64 0]) ∧ Ans w w' v (pkL false s) := by
  have K := isPath_any w a b off c s hv
  rw [decide_eq_true hp] at K
  have HB : Hid (∀ i, gd s i ≤ 15) := fun i => by
    by_cases q : i < s.length
    · exact hp.2 i q
    · rw [gd_out (by omega)]; decide
  have hl := hp.1
  have HO : Hid (s.length % 2 = 1) := ho
  have HV : Hid (View w a b off s.length (fun i => ((gd s (0 + i) : Nat) : Int))) := hv.congr (fun i _ => by rw [Nat.zero_add])
  have HP : Hid (IsP s ∧ pkL false s = lst (1 + s.length / 2) (pkY false s) ∧ pkY false s 0 = 0 + (16 + gd s 0)) := ⟨hp, rfl, by rw [pk_first, if_neg (show ¬ s.length % 2 = 0 by omega)]; rfl⟩
  have e1 : ((s.length : Int) % 2 == 1) = true := by simp; omega
  clear hv hp
  obtain ⟨n, en⟩ : ∃ n, n = s.length := ⟨_, rfl⟩
  have HE : Hid (n = s.length) := en
  rw [← en] at hl HV K e1 ho hc ⊢
  clear en
  have hmk := run_make_row' (P := Try.prog) 22 5 (.int .u8 0) 1 Try.underlying22 Try.info5 rfl .i64 .i64 (1 + n / 2) (by omega) (by omega)
  rw [show ((1 + n / 2 : Nat) : Int) = 1 + (n : Int) / 2 by omega] at hmk
  obtain rfl := HV.out.at_ (by omega)
  have hlt := HV.out.lt (by omega)
  obtain ⟨a', ha'⟩ : ∃ a', a' = behind (some (⟨b, off, none⟩ : Addr)) c 1 := ⟨_, rfl⟩
  have HW : Hid (View w a' b (off + 1) (n - 1) (fun i => ((gd s (1 + i) : Nat) : Int))) := by
    refine ⟨fun h => ?_, fun i hi => ?_, fun i hi => ?_, by omega⟩
    · rw [ha']
      unfold behind
      rw [if_neg (by omega)]
      rfl
    · have := HV.out.cell (1 + i) (by omega)
      rw [Nat.zero_add] at this
      rw [Nat.add_assoc]
      exact this
    · have := HB.out (1 + i)
      omega
  have j1 : ∀ u, (Instr.slice 22 (.slice (some ⟨b, off, none⟩) n c) (some (.int .i64 1)) none none).run Try.prog u = .ok (.slice a' (n - 1) (c - 1)) u := fun u => by rw [ha']; exact slice_from _ n c 1 (by omega) u
  clear ha'
  have HK : Hid (Calls Try.prog 46 #[.slice (some ⟨b, off, none⟩) n c] w fun e w' => e = .returned (.bool true) ∧ w' = w) := K
  clear K
  go_enter Try.func32, Try.ntmps32
  go_wp2_with fail
  refine HK.out.mono ?_
  rintro e w1 ⟨rfl, rfl⟩
  go_wp2_with fail
  clear hmk
  have NR : NewRow w1 (w1.alloc (.cells (madeCells #[.int .u8 0] (1 + n / 2)) 5)) (1 + n / 2) (fun _ => 0) := NewRow.made w1 (1 + n / 2)
  obtain ⟨w2, hw2⟩ : ∃ x, x = (w1.alloc (.cells (madeCells #[.int .u8 0] (1 + n / 2)) 5)) := ⟨_, rfl⟩
  rw [← hw2] at NR ⊢
  skip
  clear hw2
  have s0 : w2.cell? ⟨w1.heap.size, 0, none⟩ = some (.int .u8 0) := NR.row.cell (i := 0) (by omega)
  have f0 := NR.row.frozen 0
  have HR0 : Hid (NewRow w1 w2 (1 + n / 2) (fun _ => 0)) := NR
  have c0 : w2.cell? ⟨b, off, none⟩ = some (.int .u8 ((gd s 0 : Nat) : Int)) := (NR.below.cell (p := ⟨b, off, none⟩) hlt).trans (HV.out.cell 0 (by omega))
  have z0 : gd s 0 ≤ 15 := HB.out 0
  obtain ⟨x, hx⟩ : ∃ x, x = gd s 0 := ⟨_, rfl⟩
  have HX : Hid (x = gd s 0) := hx
  rw [← hx] at c0 z0
  have q1 := u8_same (16 + (x : Int)) (by omega) (by omega)
  have q2 := u8_same (0 + (16 + (x : Int))) (by omega) (by omega)
  have i1 : (0 : Int) < (n : Int) := by omega
  have i1b : 0 < n := by omega
  have i3 : (0 : Int) < 1 + (n : Int) / 2 := by omega
  have i3b : 0 < 1 + n / 2 := by omega
  clear NR hx hlt
  go_region_law (fail)
  all_goals (
    have NR : NewRow w1 ((w2.setCell ⟨w1.heap.size, 0, none⟩ (.int .u8 (16 + (x : Int)))).drew) (1 + n / 2) (pkZ false s 0) := by
      have e := (HR0.out.set 0 (0 + (16 + x))).drew
      rw [show ((0 + (16 + x) : Nat) : Int) = 16 + (x : Int) by omega] at e
      refine pkZ_first e ?_ (fun i hi => ?_)
      · rw [HP.out.2.2, ← HX.out]
        rfl
      · show (if i = 0 then _ else 0) = 0
        rw [if_neg (by omega)]
    obtain ⟨w3, hw3⟩ : ∃ z, z = (w2.setCell ⟨w1.heap.size, 0, none⟩ (.int .u8 (16 + (x : Int)))).drew := ⟨_, rfl⟩
    rw [← hw3] at NR ⊢
    clear hw3 s0 f0 c0 HR0
    have HN : Hid (NewRow w1 w3 (1 + n / 2) (pkZ false s 0)) := NR
    clear NR
    go_wp2_with fail
    go_loopg [39] (n / 2) (fun g i wr => ∃ k : Nat, k ≤ n / 2 ∧ g = n / 2 - k ∧ i = .int .i64 k ∧ NewRow w1 wr (1 + n / 2) (pkZ false s k))
    case atStart => exact ⟨0, Nat.zero_le _, rfl, rfl, HN.out⟩
    case round =>
      obtain ⟨k, hk, rfl, rfl, hR⟩ := hrel
      have HR : Hid (NewRow w1 wr (1 + n / 2) (pkZ false s k)) := hR
      clear HN
      by_cases hkn : k < n / 2
      · have k1 : 2 * k < (n - 1) := by omega
        have k2 : 2 * k + 1 < (n - 1) := by omega
        obtain rfl := HW.out.at_ (by omega)
        have hlt := HW.out.lt (by omega)
        have c1 : wr.cell? ⟨b, off + 1 + (2 * k), none⟩ = some (.int .u8 ((gd s (1 + 2 * k) : Nat) : Int)) := (hR.below.cell (p := ⟨b, off + 1 + (2 * k), none⟩) hlt).trans (HW.out.cell (2 * k) k1)
        have c2 : wr.cell? ⟨b, off + 1 + (2 * k + 1), none⟩ = some (.int .u8 ((gd s (1 + (2 * k + 1)) : Nat) : Int)) := (hR.below.cell (p := ⟨b, off + 1 + (2 * k + 1), none⟩) hlt).trans (HW.out.cell (2 * k + 1) k2)
        have z1 : gd s (1 + 2 * k) ≤ 15 := HB.out _
        have z2 : gd s (1 + (2 * k + 1)) ≤ 15 := HB.out _
        have s1 := hR.row.cell (i := 1 + k) (by omega)
        have f1 := hR.row.frozen (1 + k)
        have HY : Hid (∀ x : Int, x = 16 * ((gd s (1 + 2 * k) : Nat) : Int) + ((gd s (1 + (2 * k + 1)) : Nat) : Int) → x = ((pkY false s (1 + k) : Nat) : Int)) := fun x hx => by
          rw [hx, pk_next, HO.out]
          rw [show 1 + (2 * k + 1) = 1 + 2 * k + 1 by omega]
          omega
        obtain ⟨zz, hzz⟩ : ∃ zz, zz = pkZ false s k (1 + k) := ⟨_, rfl⟩
        rw [← hzz] at s1
        clear hzz
        obtain ⟨x, hx⟩ : ∃ x, x = gd s (1 + 2 * k) := ⟨_, rfl⟩
        obtain ⟨y, hy⟩ : ∃ y, y = gd s (1 + (2 * k + 1)) := ⟨_, rfl⟩
        rw [← hx] at c1 z1 HY
        rw [← hy] at c2 z2 HY
        clear hx hy
        have q1 := u8_same (16 * (x : Int)) (by omega) (by omega)
        have q2 := u8_same (16 * (x : Int) + (y : Int)) (by omega) (by omega)
        have o1 : (0 : Int) ≤ 2 * (k : Int) := by omega
        have o2 : (0 : Int) ≤ 2 * (k : Int) + 1 := by omega
        have o3 : IntKind.i64.wrap (2 * (k : Int)) = 2 * (k : Int) := by rw [IntKind.wrap_i64]; omega
        have o3b : IntKind.i64.wrap (2 * (k : Int) + 1) = 2 * (k : Int) + 1 := by rw [IntKind.wrap_i64]; omega
        have o3c : IntKind.i64.wrap (1 + (k : Int)) = 1 + (k : Int) := by rw [IntKind.wrap_i64]; omega
        have o4 : (2 * (k : Int)).toNat = 2 * k := by omega
        have o5 : (2 * (k : Int) + 1).toNat = 2 * k + 1 := by omega
        have o6 : (1 + (k : Int)).toNat = 1 + k := by omega
        have i1 : 2 * (k : Int) < (((n - 1) : Nat) : Int) := by omega
        have i2 : 2 * (k : Int) + 1 < (((n - 1) : Nat) : Int) := by omega
        have i3 : 1 + (k : Int) < ((1 + n / 2 : Nat) : Int) := by omega
        have i4 : (0 : Int) ≤ 1 + (k : Int) := by omega
        have i5 : (k : Int) < (((n - 1) : Nat) : Int) / 2 := by omega
        have i6 : (k : Int) < (n : Int) / 2 := by omega
        have hbn : b ≠ w1.heap.size := by omega
        clear hR hlt k1 k2
        go_wp2_with fail
        go_region_held3 (fun w' => w'.cell? ⟨b, off + 1 + (2 * k), none⟩ = some (.int .u8 (x : Int)) ∧ w'.cell? ⟨b, off + 1 + (2 * k + 1), none⟩ = some (.int .u8 (y : Int))) (first | (refine ⟨?_, ?_⟩ <;> (rw [World.cell?_drew, World.cell?_setCell_other _ _ _ _ (fun h => hbn (congrArg Addr.block h).symm)]; assumption)) | go_keep) (fail)
        have R := pkZ_step HR.out (HY.out _ rfl)
        go_wp2_with fail
        go_roundg (n / 2 - (k + 1))
        case measure => omega
        case rel => exact ⟨k + 1, by omega, rfl, by go_num, R.drew⟩
      · have : k = n / 2 := by omega
        subst this
        have i5 : ¬ ((n / 2 : Nat) : Int) < (((n - 1) : Nat) : Int) / 2 := by omega
        go_wp2_with fail
        go_ret2
        have r : NewRow w1 wr (1 + n / 2) (pkY false s) := HR.out.congr (fun i hi => by unfold pkZ; rw [if_pos hi])
        refine ⟨_, rfl, ?_⟩
        rw [HP.out.2.1, ← HE.out]
        exact r.ans (fun i _ => pkY_lt false HP.out.1.2 i) (by omega))
set_option maxRecDepth 100000 in
set_option maxHeartbeats 1600000 in
theorem pack_1t (w : World) (a : Option Addr) (b off c : Nat) (s : List Nat) (hv : Vw w a b off s) (hc : s.length ≤ c) (hp : IsP s) (ho : s.length % 2 = 1) :
    Calls Try.prog 32 #[.slice a s.length c, .bool true] w fun e w' => ∃ v, e = .returned (.tuple #[v, .int .i64 0]) ∧ Ans w w' v (pkL true s) := by
  have K := isPath_any w a b off c s hv
  rw [decide_eq_true hp] at K
  have HB : Hid (∀ i, gd s i ≤ 15) := fun i => by
    by_cases q : i < s.length
    · exact hp.2 i q
    · rw [gd_out (by omega)]; decide
  have hl := hp.1
  have HO : Hid (s.length % 2 = 1) := ho
  have HV : Hid (View w a b off s.length (fun i => ((gd s (0 + i) : Nat) : Int))) := hv.congr (fun i _ => by rw [Nat.zero_add])
  have HP : Hid (IsP s ∧ pkL true s = lst (1 + s.length / 2) (pkY true s) ∧ pkY true s 0 = 32 + (16 + gd s 0)) := ⟨hp, rfl, by rw [pk_first, if_neg (show ¬ s.length % 2 = 0 by omega)]; rfl⟩
  have e1 : ((s.length : Int) % 2 == 1) = true := by simp; omega
  clear hv hp
  obtain ⟨n, en⟩ : ∃ n, n = s.length := ⟨_, rfl⟩
  have HE : Hid (n = s.length) := en
  rw [← en] at hl HV K e1 ho hc ⊢
  clear en
  have hmk := run_make_row' (P := Try.prog) 22 5 (.int .u8 0) 1 Try.underlying22 Try.info5 rfl .i64 .i64 (1 + n / 2) (by omega) (by omega)
  rw [show ((1 + n / 2 : Nat) : Int) = 1 + (n : Int) / 2 by omega] at hmk
  have s0 : (w.alloc (.cells (madeCells #[.int .u8 0] (1 + n / 2)) 5)).cell? ⟨w.heap.size, 0, none⟩ = some (.int .u8 0) := (NewRow.made w (1 + n / 2)).row.cell (i := 0) (by omega)
  have f0 : (w.alloc (.cells (madeCells #[.int .u8 0] (1 + n / 2)) 5)).frozen? ⟨w.heap.size, 0, none⟩ = false := (NewRow.made w (1 + n / 2)).row.frozen 0
  obtain rfl := HV.out.at_ (by omega)
  have hlt := HV.out.lt (by omega)
  obtain ⟨a', ha'⟩ : ∃ a', a' = behind (some (⟨b, off, none⟩ : Addr)) c 1 := ⟨_, rfl⟩
  have HW : Hid (View w a' b (off + 1) (n - 1) (fun i => ((gd s (1 + i) : Nat) : Int))) := by
    refine ⟨fun h => ?_, fun i hi => ?_, fun i hi => ?_, by omega⟩
    · rw [ha']
      unfold behind
      rw [if_neg (by omega)]
      rfl
    · have := HV.out.cell (1 + i) (by omega)
      rw [Nat.zero_add] at this
      rw [Nat.add_assoc]
      exact this
    · have := HB.out (1 + i)
      omega
  have j1 : ∀ u, (Instr.slice 22 (.slice (some ⟨b, off, none⟩) n c) (some (.int .i64 1)) none none).run Try.prog u = .ok (.slice a' (n - 1) (c - 1)) u := fun u => by rw [ha']; exact slice_from _ n c 1 (by omega) u
  clear ha'
  have HK : Hid (Calls Try.prog 46 #[.slice (some ⟨b, off, none⟩) n c] w fun e w' => e = .returned (.bool true) ∧ w' = w) := K
  clear K
  go_enter Try.func32, Try.ntmps32
  go_wp2_with fail
  refine HK.out.mono ?_
  rintro e w1 ⟨rfl, rfl⟩
  go_wp2_with fail
  clear hmk
  have NR : NewRow w1 (w1.alloc (.cells ((madeCells #[.int .u8 0] (1 + n / 2)).setIfInBounds 0 (.int .u8 32)) 5)) (1 + n / 2) (fun j => if j = 0 then 32 else 0) := new_first w1 (1 + n / 2)
  obtain ⟨w2, hw2⟩ : ∃ x, x = (w1.alloc (.cells ((madeCells #[.int .u8 0] (1 + n / 2)).setIfInBounds 0 (.int .u8 32)) 5)) := ⟨_, rfl⟩
  rw [← hw2] at NR ⊢
  clear s0 f0
  clear hw2
  have s0 : w2.cell? ⟨w1.heap.size, 0, none⟩ = some (.int .u8 32) := NR.row.cell (i := 0) (by omega)
  have f0 := NR.row.frozen 0
  have HR0 : Hid (NewRow w1 w2 (1 + n / 2) (fun j => if j = 0 then 32 else 0)) := NR
  have c0 : w2.cell? ⟨b, off, none⟩ = some (.int .u8 ((gd s 0 : Nat) : Int)) := (NR.below.cell (p := ⟨b, off, none⟩) hlt).trans (HV.out.cell 0 (by omega))
  have z0 : gd s 0 ≤ 15 := HB.out 0
  obtain ⟨x, hx⟩ : ∃ x, x = gd s 0 := ⟨_, rfl⟩
  have HX : Hid (x = gd s 0) := hx
  rw [← hx] at c0 z0
  have q1 := u8_same (16 + (x : Int)) (by omega) (by omega)
  have q2 := u8_same (32 + (16 + (x : Int))) (by omega) (by omega)
  have i1 : (0 : Int) < (n : Int) := by omega
  have i1b : 0 < n := by omega
  have i3 : (0 : Int) < 1 + (n : Int) / 2 := by omega
  have i3b : 0 < 1 + n / 2 := by omega
  clear NR hx hlt
  go_region_law (fail)
  all_goals (
    have NR : NewRow w1 ((w2.setCell ⟨w1.heap.size, 0, none⟩ (.int .u8 (32 + (16 + (x : Int))))).drew) (1 + n / 2) (pkZ true s 0) := by
      have e := (HR0.out.set 0 (32 + (16 + x))).drew
      rw [show ((32 + (16 + x) : Nat) : Int) = 32 + (16 + (x : Int)) by omega] at e
      refine pkZ_first e ?_ (fun i hi => ?_)
      · rw [HP.out.2.2, ← HX.out]
        rfl
      · show (if i = 0 then _ else if i = 0 then 32 else 0) = 0
        rw [if_neg (by omega), if_neg (by omega)]
    obtain ⟨w3, hw3⟩ : ∃ z, z = (w2.setCell ⟨w1.heap.size, 0, none⟩ (.int .u8 (32 + (16 + (x : Int))))).drew := ⟨_, rfl⟩
    rw [← hw3] at NR ⊢
    clear hw3 s0 f0 c0 HR0
    have HN : Hid (NewRow w1 w3 (1 + n / 2) (pkZ true s 0)) := NR
    clear NR
    go_wp2_with fail
    go_loopg [39] (n / 2) (fun g i wr => ∃ k : Nat, k ≤ n / 2 ∧ g = n / 2 - k ∧ i = .int .i64 k ∧ NewRow w1 wr (1 + n / 2) (pkZ true s k))
    case atStart => exact ⟨0, Nat.zero_le _, rfl, rfl, HN.out⟩
    case round =>
      obtain ⟨k, hk, rfl, rfl, hR⟩ := hrel
      have HR : Hid (NewRow w1 wr (1 + n / 2) (pkZ true s k)) := hR
      clear HN
      by_cases hkn : k < n / 2
      · have k1 : 2 * k < (n - 1) := by omega
        have k2 : 2 * k + 1 < (n - 1) := by omega
        obtain rfl := HW.out.at_ (by omega)
        have hlt := HW.out.lt (by omega)
        have c1 : wr.cell? ⟨b, off + 1 + (2 * k), none⟩ = some (.int .u8 ((gd s (1 + 2 * k) : Nat) : Int)) := (hR.below.cell (p := ⟨b, off + 1 + (2 * k), none⟩) hlt).trans (HW.out.cell (2 * k) k1)
        have c2 : wr.cell? ⟨b, off + 1 + (2 * k + 1), none⟩ = some (.int .u8 ((gd s (1 + (2 * k + 1)) : Nat) : Int)) := (hR.below.cell (p := ⟨b, off + 1 + (2 * k + 1), none⟩) hlt).trans (HW.out.cell (2 * k + 1) k2)
        have z1 : gd s (1 + 2 * k) ≤ 15 := HB.out _
        have z2 : gd s (1 + (2 * k + 1)) ≤ 15 := HB.out _
        have s1 := hR.row.cell (i := 1 + k) (by omega)
        have f1 := hR.row.frozen (1 + k)
        have HY : Hid (∀ x : Int, x = 16 * ((gd s (1 + 2 * k) : Nat) : Int) + ((gd s (1 + (2 * k + 1)) : Nat) : Int) → x = ((pkY true s (1 + k) : Nat) : Int)) := fun x hx => by
          rw [hx, pk_next, HO.out]
          rw [show 1 + (2 * k + 1) = 1 + 2 * k + 1 by omega]
          omega
        obtain ⟨zz, hzz⟩ : ∃ zz, zz = pkZ true s k (1 + k) := ⟨_, rfl⟩
        rw [← hzz] at s1
        clear hzz
        obtain ⟨x, hx⟩ : ∃ x, x = gd s (1 + 2 * k) := ⟨_, rfl⟩
        obtain ⟨y, hy⟩ : ∃ y, y = gd s (1 + (2 * k + 1)) := ⟨_, rfl⟩
        rw [← hx] at c1 z1 HY
        rw [← hy] at c2 z2 HY
        clear hx hy
        have q1 := u8_same (16 * (x : Int)) (by omega) (by omega)
        have q2 := u8_same (16 * (x : Int) + (y : Int)) (by omega) (by omega)
        have o1 : (0 : Int) ≤ 2 * (k : Int) := by omega
        have o2 : (0 : Int) ≤ 2 * (k : Int) + 1 := by omega
        have o3 : IntKind.i64.wrap (2 * (k : Int)) = 2 * (k : Int) := by rw [IntKind.wrap_i64]; omega
        have o3b : IntKind.i64.wrap (2 * (k : Int) + 1) = 2 * (k : Int) + 1 := by rw [IntKind.wrap_i64]; omega
        have o3c : IntKind.i64.wrap (1 + (k : Int)) = 1 + (k : Int) := by rw [IntKind.wrap_i64]; omega
        have o4 : (2 * (k : Int)).toNat = 2 * k := by omega
        have o5 : (2 * (k : Int) + 1).toNat = 2 * k + 1 := by omega
        have o6 : (1 + (k : Int)).toNat = 1 + k := by omega
        have i1 : 2 * (k : Int) < (((n - 1) : Nat) : Int) := by omega
        have i2 : 2 * (k : Int) + 1 < (((n - 1) : Nat) : Int) := by omega
        have i3 : 1 + (k : Int) < ((1 + n / 2 : Nat) : Int) := by omega
        have i4 : (0 : Int) ≤ 1 + (k : Int) := by omega
        have i5 : (k : Int) < (((n - 1) : Nat) : Int) / 2 := by omega
        have i6 : (k : Int) < (n : Int) / 2 := by omega
        have hbn : b ≠ w1.heap.size := by omega
        clear hR hlt k1 k2
        go_wp2_with fail
        go_region_held3 (fun w' => w'.cell? ⟨b, off + 1 + (2 * k), none⟩ = some (.int .u8 (x : Int)) ∧ w'.cell? ⟨b, off + 1 + (2 * k + 1), none⟩ = some (.int .u8 (y : Int))) (first | (refine ⟨?_, ?_⟩ <;> (rw [World.cell?_drew, World.cell?_setCell_other _ _ _ _ (fun h => hbn (congrArg Addr.block h).symm)]; assumption)) | go_keep) (fail)
        have R := pkZ_step HR.out (HY.out _ rfl)
        go_wp2_with fail
        go_roundg (n / 2 - (k + 1))
        case measure => omega
        case rel => exact ⟨k + 1, by omega, rfl, by go_num, R.drew⟩
      · have : k = n / 2 := by omega
        subst this
        have i5 : ¬ ((n / 2 : Nat) : Int) < (((n - 1) : Nat) : Int) / 2 := by omega
        go_wp2_with fail
        go_ret2
        have r : NewRow w1 wr (1 + n / 2) (pkY true s) := HR.out.congr (fun i hi => by unfold pkZ; rw [if_pos hi])
        refine ⟨_, rfl, ?_⟩
        rw [HP.out.2.1, ← HE.out]
        exact r.ans (fun i _ => pkY_lt true HP.out.1.2 i) (by omega))
end Go.Proofs.Ytpiinkfcaoaffaa
