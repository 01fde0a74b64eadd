import Derived.Test.YtlhllbggnpcoaaaDoorTw
/-
  DigestLess.
-/
namespace Go.Proofs.YtlhllbggnpcoaaaDoor
open Go.RowKit Go.Sort Go.Maps

theorem ins2_len (s t : List Nat) : (ins s [t]).length ≤ 2 := by
  rw [ins_cons]
  split
  · simp
  · split
    · simp
    · simp [ins]
theorem bit_int {y z : Nat} (h : y < 256) : (y : Int) / (z : Int) % 256 % 2 = ((y / z % 2 : Nat) : Int) := by
  have h1 : y / z < 256 := Nat.lt_of_le_of_lt (Nat.div_le_self _ _) h
  have h2 : (y : Int) / (z : Int) = ((y / z : Nat) : Int) := rfl
  rw [h2]
  generalize y / z = q at h1
  omega
theorem two_old (w : World) : ((w.alloc (.cells Z32 31)).alloc (.cells Z32 31)).heap[w.heap.size]? = some (.cells Z32 31 (0, 0)) := (heap_alloc_old _ _ (by simp)).trans (heap_alloc_new _ _)
theorem two_new2 (w : World) (c : Array Value) : (((w.alloc (.cells Z32 31)).alloc (.cells Z32 31)).setRow w.heap.size c).heap[w.heap.size + 1]? = some (.cells Z32 31 (0, 0)) := by
  have := heap_alloc_new (w.alloc (.cells Z32 31)) (.cells Z32 31)
  exact (setRow_other _ _ _ _ (by omega)).trans (by simpa using this)

set_option maxRecDepth 100000 in
set_option maxHeartbeats 4000000 in
theorem less_any (w : World) (hG : Ground w) (x : Int) (a1 : Option Addr) (b1 o1 c1 : Nat) (t1 : List Nat) (v1 : Vw w a1 b1 o1 t1) (hc1 : t1.length ≤ c1) (hs1 : t1.length ≤ 140737488355328)
    (a2 : Option Addr) (b2 o2 c2 : Nat) (t2 : List Nat) (v2 : Vw w a2 b2 o2 t2) (hc2 : t2.length ≤ c2) (hs2 : t2.length ≤ 140737488355328) :
    Calls Tryd.prog 3 #[.int .i64 x, .slice a1 t1.length c1, .slice a2 t2.length c2] w fun e w' => e = .returned (.bool true) ∧ Below w.heap.size w w' := by
  have z64 := (zero_of_info infoH).1
  have HG : Hid (Ground w) := hG
  have V1 : Hid (Vw w a1 b1 o1 t1 ∧ t1.length ≤ c1 ∧ t1.length ≤ 140737488355328) := ⟨v1, hc1, hs1⟩
  have V2 : Hid (Vw w a2 b2 o2 t2 ∧ t2.length ≤ c2 ∧ t2.length ≤ 140737488355328) := ⟨v2, hc2, hs2⟩
  clear hG v1 hc1 hs1 v2 hc2 hs2
  have HB : Hid (8 ≤ nbits x ∧ nbits x ≤ 256) := nbits_le x
  go_enter Tryd.func3, Tryd.ntmps3
  go_wp2_with fail
  refine (bits_any w x).mono ?_
  rintro _ w' ⟨rfl, hw'⟩
  have hw'' := hw'.symm
  subst hw''
  revert HB
  generalize nbits x = n
  intro HB
  go_wp2_with fail
  refine (secret_any w a2 b2 o2 t2.length c2 (gd t2) V2.out.1 (gd_lt (vw_ok V2.out.1).2)).mono ?_
  rintro _ w1 ⟨a3, g3, c3, rfl, _, _, _, hv1, _, hb1⟩
  obtain ⟨S, hS⟩ : ∃ S, S = lst 32 (secf t2.length (gd t2)) := ⟨_, rfl⟩
  rw [← hS] at hv1
  have HS : Hid (S.length = 32) := by rw [hS]; exact lst_len _ _
  have n1 := new_ok w1 256 256 a3 g3 0 c3 S hv1 (by decide) (by decide) HS.out w.heap.size hb1.size
  have H1 : Hid (Below w.heap.size w w1 ∧ Vw w1 a3 g3 0 S) := ⟨hb1, hv1⟩
  clear hb1 hv1 hS
  go_wp2_with fail
  refine n1.mono ?_
  rintro _ w2 ⟨sb1, F1, rfl, hb2, bk1, hf1⟩
  have n2 := new_ok w2 n n a3 g3 0 c3 S (H1.out.2.below hb2) HB.out HB.out HS.out w.heap.size (Nat.le_trans H1.out.1.size hb2.size)
  have H2 : Hid (Below w1.heap.size w1 w2 ∧ Book w2 w.heap.size sb1 ⟨256, 256, gd S, [], [], []⟩ F1) := ⟨hb2, bk1⟩
  clear hb2 bk1 hf1 n1
  go_wp2_with fail
  refine n2.mono ?_
  rintro _ w4 ⟨sb2, F2, rfl, hb4, bk2, hf2⟩
  have HT : Hid (Two4 w w4 sb1 ⟨256, 256, gd S, [], [], []⟩ sb2 ⟨n, n, gd S, [], [], []⟩ []) :=
    two_new HG.out H1.out.1 H2.out.1 H2.out.2 hb4 bk2 hf2
  clear hb4 bk2 hf2 n2 H1 H2
  go_wp2_with fail
  refine (fixed_any w4 HT.out.belowW.2.1).mono ?_
  rintro _ w5 ⟨rfl, hb5⟩
  have HT5 : Hid (Two4 w w5 sb1 ⟨256, 256, gd S, [], [], []⟩ sb2 ⟨n, n, gd S, [], [], []⟩ []) := HT.out.step hb5
  clear hb5 HT
  go_wp2_with fail
  refine (HT5.out.hash2 (by simp) a2 b2 o2 c2 t2 V2.out.1 V2.out.2.1 V2.out.2.2).mono ?_
  rintro _ w6 ⟨rfl, ht⟩
  have HT6 : Hid (Two4 w w6 sb1 ⟨256, 256, gd S, [], [], []⟩ sb2 ⟨n, n, gd S, [t2], [], []⟩ []) := ht
  clear ht HT5
  generalize hA (kh _ t2) = u1
  go_wp2_with fail
  refine (HT6.out.code2 (by simp) a2 b2 o2 c2 t2 V2.out.1 V2.out.2.1 V2.out.2.2).mono ?_
  rintro _ w7 ⟨rfl, ht⟩
  have HT7 : Hid (Two4 w w7 sb1 ⟨256, 256, gd S, [], [], []⟩ sb2 ⟨n, n, gd S, [t2], [t2], []⟩ []) := ht
  clear ht HT6
  generalize hA (kc _ _ t2) = u2
  go_wp2_with fail
  refine (HT7.out.hash1 (by simp) a1 b1 o1 c1 t1 V1.out.1 V1.out.2.1 V1.out.2.2).mono ?_
  rintro _ w8 ⟨rfl, ht⟩
  have HT8 : Hid (Two4 w w8 sb1 ⟨256, 256, gd S, [t1], [], []⟩ sb2 ⟨n, n, gd S, [t2], [t2], []⟩ []) := ht
  clear ht HT7
  go_wp2_with fail
  refine (HT8.out.hash2 (by simp) a1 b1 o1 c1 t1 V1.out.1 V1.out.2.1 V1.out.2.2).mono ?_
  rintro _ w9 ⟨rfl, ht⟩
  have HT9 : Hid (Two4 w w9 sb1 ⟨256, 256, gd S, [t1], [], []⟩ sb2 ⟨n, n, gd S, ins t1 [t2], [t2], []⟩ []) := ht
  clear ht HT8
  have hk1 := kh_isH 256 t1
  have hk2 := kh_isH n t1
  obtain ⟨k1, e1⟩ : ∃ k, k = kh 256 t1 := ⟨_, rfl⟩
  obtain ⟨k2, e2⟩ : ∃ k, k = kh n t1 := ⟨_, rfl⟩
  have K1 : Hid (k1 = kh 256 t1 ∧ k2 = kh n t1) := ⟨e1, e2⟩
  have e1' : kh (⟨256, 256, gd S, [], [], []⟩ : Bst).bits t1 = k1 := e1.symm
  have e2' : kh (⟨n, n, gd S, [t2], [t2], []⟩ : Bst).bits t1 = k2 := e2.symm
  first | rw [e1'] | rw [← e1]
  first | rw [e2'] | rw [← e2]
  rw [← e1] at hk1
  rw [← e2] at hk2
  clear e1 e2 e1' e2'
  have HTA := HT9.out.box2 (hA k1) (hA k2)
  have HTB : Hid (Two4 w ((((w9.alloc (.cells Z32 31)).alloc (.cells Z32 31)).setRow w9.heap.size (hA k1)).setRow (w9.heap.size + 1) (hA k2)) sb1 ⟨256, 256, gd S, [t1], [], []⟩ sb2 ⟨n, n, gd S, ins t1 [t2], [t2], []⟩ ((w9.heap.size + 1, hA k2) :: (w9.heap.size, hA k1) :: [])) := HTA
  clear HTA HT9
  go_wp2_with (first
    | refine wpList_store_row (by rfl) 31 (.tmp 13) (.tmp 66) (by rfl) w9.heap.size (hA k1) (by rfl) (by rfl) 31 Z32 (two_old w9) (hA_info hk1) (hA_Z32 hk1) (hA_one hk1) ?_
    | refine wpList_store_row (by rfl) 31 (.tmp 14) (.tmp 69) (by rfl) (w9.heap.size + 1) (hA k2) (by rfl) (by rfl) 31 Z32 (two_new2 w9 (hA k1)) (hA_info hk2) (hA_Z32 hk2) (hA_one hk2) ?_)
  revert HTB
  generalize (((w9.alloc (.cells Z32 31)).alloc (.cells Z32 31)).setRow w9.heap.size (hA k1)).setRow (w9.heap.size + 1) (hA k2) = w10
  generalize w9.heap.size = g9
  intro HTB
  refine (HTB.out.code1 (by simp) a1 b1 o1 c1 t1 V1.out.1 V1.out.2.1 V1.out.2.2).mono ?_
  rintro _ w11 ⟨rfl, ht⟩
  have HT11 : Hid (Two4 w w11 sb1 ⟨256, 256, gd S, [t1], [t1], []⟩ sb2 ⟨n, n, gd S, ins t1 [t2], [t2], []⟩ ((g9 + 1, hA k2) :: (g9, hA k1) :: [])) := ht
  clear ht HTB
  go_wp2_with fail
  refine (HT11.out.code2 (by simp) a1 b1 o1 c1 t1 V1.out.1 V1.out.2.1 V1.out.2.2).mono ?_
  rintro _ w12 ⟨rfl, ht⟩
  have HT12 : Hid (Two4 w w12 sb1 ⟨256, 256, gd S, [t1], [t1], []⟩ sb2 ⟨n, n, gd S, ins t1 [t2], ins t1 [t2], []⟩ ((g9 + 1, hA k2) :: (g9, hA k1) :: [])) := ht
  clear ht HT11
  have hk3 := kc_isH 256 (gd S) t1
  have hk4 := kc_isH n (gd S) t1
  obtain ⟨k3, e1⟩ : ∃ k, k = kc 256 (gd S) t1 := ⟨_, rfl⟩
  obtain ⟨k4, e2⟩ : ∃ k, k = kc n (gd S) t1 := ⟨_, rfl⟩
  have K3 : Hid (k3 = kc 256 (gd S) t1 ∧ k4 = kc n (gd S) t1) := ⟨e1, e2⟩
  have e1' : kc (⟨256, 256, gd S, [t1], [], []⟩ : Bst).cbits (⟨256, 256, gd S, [t1], [], []⟩ : Bst).S t1 = k3 := e1.symm
  have e2' : kc (⟨n, n, gd S, ins t1 [t2], [t2], []⟩ : Bst).cbits (⟨n, n, gd S, ins t1 [t2], [t2], []⟩ : Bst).S t1 = k4 := e2.symm
  first | rw [e1'] | rw [← e1]
  first | rw [e2'] | rw [← e2]
  rw [← e1] at hk3
  rw [← e2] at hk4
  clear e1 e2 e1' e2'
  have HTB : Hid (Two4 w ((((w12.alloc (.cells Z32 31)).alloc (.cells Z32 31)).setRow w12.heap.size (hA k3)).setRow (w12.heap.size + 1) (hA k4)) sb1 ⟨256, 256, gd S, [t1], [t1], []⟩ sb2 ⟨n, n, gd S, ins t1 [t2], ins t1 [t2], []⟩ ((w12.heap.size + 1, hA k4) :: (w12.heap.size, hA k3) :: (g9 + 1, hA k2) :: (g9, hA k1) :: [])) := HT12.out.box2 (hA k3) (hA k4)
  clear HT12
  go_wp2_with (first
    | refine wpList_store_row (by rfl) 31 (.tmp 15) (.tmp 72) (by rfl) w12.heap.size (hA k3) (by rfl) (by rfl) 31 Z32 (two_old w12) (hA_info hk3) (hA_Z32 hk3) (hA_one hk3) ?_
    | refine wpList_store_row (by rfl) 31 (.tmp 16) (.tmp 75) (by rfl) (w12.heap.size + 1) (hA k4) (by rfl) (by rfl) 31 Z32 (two_new2 w12 (hA k3)) (hA_info hk4) (hA_Z32 hk4) (hA_one hk4) ?_)
  revert HTB
  generalize (((w12.alloc (.cells Z32 31)).alloc (.cells Z32 31)).setRow w12.heap.size (hA k3)).setRow (w12.heap.size + 1) (hA k4) = w13
  generalize w12.heap.size = g12
  intro HTB
  go_loopg [17] 256 (fun g i wr => ∃ k : Nat, k ≤ 256 ∧ g = 256 - k ∧ i = .int .i64 k ∧ Two4 w wr sb1 ⟨256, 256, gd S, [t1], [t1], []⟩ sb2 ⟨n, n, gd S, ins t1 [t2], ins t1 [t2], []⟩ ((g12 + 1, hA k4) :: (g12, hA k3) :: (g9 + 1, hA k2) :: (g9, hA k1) :: []))
  case atStart => exact ⟨0, by omega, rfl, rfl, HTB.out⟩
  case round =>
    obtain ⟨k, hk, rfl, rfl, hR⟩ := hrel
    have HR : Hid (Two4 w wr sb1 ⟨256, 256, gd S, [t1], [t1], []⟩ sb2 ⟨n, n, gd S, ins t1 [t2], ins t1 [t2], []⟩ ((g12 + 1, hA k4) :: (g12, hA k3) :: (g9 + 1, hA k2) :: (g9, hA k1) :: [])) := hR
    clear HTB hR
    by_cases hkn : k < 256
    · have HK : Hid (k < 256) := hkn
      have i1 : (k : Int) < 256 := by omega
      have i2 : Int.tmod (k : Int) 8 = ((k % 8 : Nat) : Int) := Int.ofNat_tmod k 8
      clear hkn
      obtain ⟨m, hm⟩ : ∃ m, m = k % 8 := ⟨_, rfl⟩
      have HM : Hid (m = k % 8) := hm
      rw [← hm] at i2
      have m8 : m < 8 := by omega
      clear hm
      go_wp2_with fail
      go_loopg [18, 19] m (fun g v j wq => ∃ q : Nat, q ≤ m ∧ g = m - q ∧ v = .int .u8 ((128 / 2 ^ q : Nat) : Int) ∧ j = .int .i64 q ∧ wq = wr)
      case atStart => exact ⟨0, by omega, rfl, rfl, rfl, rfl⟩
      case round =>
        obtain ⟨q, hq, rfl, rfl, rfl, hwq⟩ := hrel
        have hwq' := hwq.symm
        subst hwq'
        by_cases hqm : q < m
        · have HP : Hid (128 / 2 ^ q / 2 = 128 / 2 ^ (q + 1)) := half_pow q (by omega)
          have hz : 128 / 2 ^ q ≤ 128 := Nat.div_le_self _ _
          obtain ⟨z, ez⟩ : ∃ z, z = 128 / 2 ^ q := ⟨_, rfl⟩
          rw [← ez] at HP hz ⊢
          have i3 : (q : Int) < (m : Int) := by omega
          clear ez
          go_wp2_with fail
          go_roundg (m - (q + 1))
          case measure => omega
          case rel => exact ⟨q + 1, by omega, rfl, by rw [← HP.out]; go_num, by go_num, rfl⟩
        · obtain rfl : q = m := by omega
          have HP : Hid (128 / 2 ^ q = 2 ^ (7 - q)) := pow_half q m8
          have hz : 0 < 128 / 2 ^ q ∧ 128 / 2 ^ q ≤ 128 := ⟨by rw [HP.out]; exact Nat.pos_of_ne_zero (by simp), Nat.div_le_self _ _⟩
          obtain ⟨z, ez⟩ : ∃ z, z = 128 / 2 ^ q := ⟨_, rfl⟩
          rw [← ez] at HP hz ⊢
          have i3 : ¬ ((q : Int) < (q : Int)) := by omega
          clear ez
          obtain ⟨d, ed⟩ : ∃ d, d = k / 8 := ⟨_, rfl⟩
          have HD : Hid (d = k / 8) := ed
          have hd : d < 32 := by have := HK.out; omega
          have j1 : Int.tdiv (k : Int) 8 = (d : Int) := by rw [ed]; exact Int.ofNat_tdiv k 8
          clear ed
          obtain ⟨y1, ey1⟩ : ∃ y, y = gd k1 d := ⟨_, rfl⟩
          obtain ⟨y2, ey2⟩ : ∃ y, y = gd k2 d := ⟨_, rfl⟩
          obtain ⟨y3, ey3⟩ : ∃ y, y = gd k3 d := ⟨_, rfl⟩
          obtain ⟨y4, ey4⟩ : ∃ y, y = gd k4 d := ⟨_, rfl⟩
          have HY : Hid (y1 = gd k1 d ∧ y2 = gd k2 d ∧ y3 = gd k3 d ∧ y4 = gd k4 d) := ⟨ey1, ey2, ey3, ey4⟩
          have l1 : y1 < 256 := ey1 ▸ gd_lt hk1.2 d
          have l2 : y2 < 256 := ey2 ▸ gd_lt hk2.2 d
          have q1 := cell_hA hk1 (HR.out.cells (g := g9) (by simp)) hd ey1.symm
          have q2 := cell_hA hk2 (HR.out.cells (g := g9 + 1) (by simp)) hd ey2.symm
          clear ey1 ey2 ey3 ey4
          go_wp2_with fail
          go_quiet (fail)
          have HR2 : Hid (Two4 w (wr.drewN nq) sb1 ⟨256, 256, gd S, [t1], [t1], []⟩ sb2 ⟨n, n, gd S, ins t1 [t2], ins t1 [t2], []⟩ ((g12 + 1, hA k4) :: (g12, hA k3) :: (g9 + 1, hA k2) :: (g9, hA k1) :: [])) := HR.out.step ((Turn.drewN (F := fun _ => False) wr nq).below (fun _ f => f.elim) (Nat.le_refl _))
          clear HR q1 q2
          revert HR2
          generalize wr.drewN nq = wr
          intro HR2
          have p1 : (y1 : Int) / (z : Int) % 256 % 2 = ((y1 / z % 2 : Nat) : Int) := bit_int l1
          have p2 : (y2 : Int) / (z : Int) % 256 % 2 = ((y2 / z % 2 : Nat) : Int) := bit_int l2
          rw [p1, p2]
          have l3 : y3 < 256 := HY.out.2.2.1 ▸ gd_lt hk3.2 d
          have l4 : y4 < 256 := HY.out.2.2.2 ▸ gd_lt hk4.2 d
          have q3 := cell_hA hk3 (HR2.out.cells (g := g12) (by simp)) hd HY.out.2.2.1.symm
          have q4 := cell_hA hk4 (HR2.out.cells (g := g12 + 1) (by simp)) hd HY.out.2.2.2.symm
          obtain ⟨x1, ex1⟩ : ∃ x, x = y1 / z % 2 := ⟨_, rfl⟩
          obtain ⟨x2, ex2⟩ : ∃ x, x = y2 / z % 2 := ⟨_, rfl⟩
          rw [← ex1, ← ex2]
          have HX1 : Hid (x1 = y1 / z % 2 ∧ x2 = y2 / z % 2) := ⟨ex1, ex2⟩
          clear p1 p2 l1 l2 ex1 ex2
          go_wp2_with fail
          go_quiet (fail)
          have HR3 : Hid (Two4 w (wr.drewN nq) sb1 ⟨256, 256, gd S, [t1], [t1], []⟩ sb2 ⟨n, n, gd S, ins t1 [t2], ins t1 [t2], []⟩ ((g12 + 1, hA k4) :: (g12, hA k3) :: (g9 + 1, hA k2) :: (g9, hA k1) :: [])) := HR2.out.step ((Turn.drewN (F := fun _ => False) wr nq).below (fun _ f => f.elim) (Nat.le_refl _))
          clear HR2 q3 q4
          revert HR3
          generalize wr.drewN nq = wr
          intro HR3
          have p1 : (y3 : Int) / (z : Int) % 256 % 2 = ((y3 / z % 2 : Nat) : Int) := bit_int l3
          have p2 : (y4 : Int) / (z : Int) % 256 % 2 = ((y4 / z % 2 : Nat) : Int) := bit_int l4
          rw [p1, p2]
          obtain ⟨x3, ex3⟩ : ∃ x, x = y3 / z % 2 := ⟨_, rfl⟩
          obtain ⟨x4, ex4⟩ : ∃ x, x = y4 / z % 2 := ⟨_, rfl⟩
          rw [← ex3, ← ex4]
          have HX3 : Hid (x3 = y3 / z % 2 ∧ x4 = y4 / z % 2) := ⟨ex3, ex4⟩
          clear p1 p2 l3 l4 ex3 ex4
          have B1 := cutf_bit n (gd (sum t1)) (gd_lt (sum_isH t1).2) k HK.out
          have B2 := cutf_bit n (gd (cod (gd S) t1)) (gd_lt (cod_isH (gd S) t1).2) k HK.out
          rw [← HD.out, ← HM.out, ← HP.out] at B1 B2
          have f1 : y1 = cutf (256 : Nat) (gd (sum t1)) d := by rw [HY.out.1, K1.out.1]; exact lst_gd hd
          have f2 : y2 = cutf n (gd (sum t1)) d := by rw [HY.out.2.1, K1.out.2]; exact lst_gd hd
          have f3 : y3 = cutf (256 : Nat) (gd (cod (gd S) t1)) d := by rw [HY.out.2.2.1, K3.out.1]; exact lst_gd hd
          have f4 : y4 = cutf n (gd (cod (gd S) t1)) d := by rw [HY.out.2.2.2, K3.out.2]; exact lst_gd hd
          by_cases hin : k < n
          · have E1 : x2 = x1 := by rw [HX1.out.1, HX1.out.2, f1, f2]; exact B1.1 hin
            have E2 : x4 = x3 := by rw [HX3.out.1, HX3.out.2, f3, f4]; exact B2.1 hin
            subst E1
            subst E2
            have i4 : (k : Int) < (n : Int) := by omega
            clear B1 B2 f1 f2 f3 f4
            go_wp2_with fail
            go_roundg (256 - (k + 1))
            case measure => have := HK.out; omega
            case rel => exact ⟨k + 1, HK.out, rfl, by go_num, HR3.out⟩
          · have E1 : x2 = 0 := by rw [HX1.out.2, f2]; exact B1.2 (by omega)
            have E2 : x4 = 0 := by rw [HX3.out.2, f4]; exact B2.2 (by omega)
            subst E1
            subst E2
            have i4 : ¬ ((k : Int) < (n : Int)) := by omega
            clear B1 B2 f1 f2 f3 f4
            go_wp2_with fail
            go_roundg (256 - (k + 1))
            case measure => have := HK.out; omega
            case rel => exact ⟨k + 1, HK.out, rfl, by go_num, HR3.out⟩
    · have : k = 256 := by omega
      subst this
      have hcl4 : ∀ j, j < (hA k4).size → wr.cell? ⟨g12 + 1, j, none⟩ = (hA k4)[j]? := fun j _ => cell_of_row _ _ _ _ 31 _ (HR.out.cells (by simp))
      have hi4 := hA_info hk4
      go_wp2_with (refine wpList_load_cells_g (by rfl) 31 (.tmp 16) (by rfl) (g12 + 1) (by rfl) (hA k4) _ hcl4 Tryd.underlying31 (by rfl) hi4 ?_)
      refine (HR.out.own2 (by have := ins2_len t1 t2; show (ins t1 [t2]).length ≤ _; omega) a1 b1 o1 c1 t1 V1.out.1 V1.out.2.1 k4 hk4 K3.out.2 (mem_ins.2 (Or.inl rfl))).mono ?_
      rintro _ w14 ⟨rfl, ht⟩
      have HR2 : Hid (Two4 w w14 sb1 ⟨256, 256, gd S, [t1], [t1], []⟩ sb2 ⟨n, n, gd S, ins t1 [t2], ins t1 [t2], []⟩ ((g12 + 1, hA k4) :: (g12, hA k3) :: (g9 + 1, hA k2) :: (g9, hA k1) :: [])) := ht
      clear ht HR hcl4
      have hcl3 : ∀ j, j < (hA k3).size → w14.cell? ⟨g12, j, none⟩ = (hA k3)[j]? := fun j _ => cell_of_row _ _ _ _ 31 _ (HR2.out.cells (by simp))
      have hi3 := hA_info hk3
      go_wp2_with (refine wpList_load_cells_g (by rfl) 31 (.tmp 15) (by rfl) g12 (by rfl) (hA k3) _ hcl3 Tryd.underlying31 (by rfl) hi3 ?_)
      refine (HR2.out.own1 (by simp) a1 b1 o1 c1 t1 V1.out.1 V1.out.2.1 k3 hk3 K3.out.1 (by simp)).mono ?_
      rintro _ w15 ⟨rfl, ht⟩
      have HR3 : Hid (Two4 w w15 sb1 ⟨256, 256, gd S, [t1], [t1], []⟩ sb2 ⟨n, n, gd S, ins t1 [t2], ins t1 [t2], []⟩ ((g12 + 1, hA k4) :: (g12, hA k3) :: (g9 + 1, hA k2) :: (g9, hA k1) :: [])) := ht
      clear ht HR2 hcl3
      have sd := HR3.out.sound1
      have vv : (decide (Lone (kh 256) [t1]) && decide (Lone (kc 256 (gd S)) [t1]) && decide (([] : List (List Nat)).length = 0)) = true := by rw [decide_eq_true (lone_one _ _), decide_eq_true (lone_one _ _)]; rfl
      rw [vv] at sd
      go_wp2_with fail
      refine sd.mono ?_
      rintro _ w16 ⟨rfl, ht⟩
      have HR4 : Hid (Two4 w w16 sb1 ⟨256, 256, gd S, [t1], [t1], []⟩ sb2 ⟨n, n, gd S, ins t1 [t2], ins t1 [t2], []⟩ ((g12 + 1, hA k4) :: (g12, hA k3) :: (g9 + 1, hA k2) :: (g9, hA k1) :: [])) := ht
      clear ht HR3 sd vv
      go_wp2_with fail
      refine (HR4.out.forges0 rfl).mono ?_
      rintro _ w17 ⟨rfl, ht⟩
      have HE : Hid (Below w.heap.size w w17) := ht.belowW.1
      clear ht HR4
      go_wp2_with fail
      go_ret
      exact ⟨rfl, HE.out⟩
end Go.Proofs.YtlhllbggnpcoaaaDoor
