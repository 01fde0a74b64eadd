/-
  ShaLong: the law.
-/
import Derived.Test.YtdhenfepfkmhhaaDoorRest
namespace Go.Proofs.YtdhenfepfkmhhaaDoor
open Go.RowKit

theorem dig_1000 : digest 1000 (fun _ => 97) = ⟨0x41edece4, 0x2d63e8d9, 0xbf515a9b, 0xa6932e1c, 0x20cbc9f5, 0xa5d13464, 0x5adb5db1, 0xb9737ea3⟩ := by
  rw [digest_ego]
  exact known3
theorem txt_1000 : str 64 (dgs ⟨0x41edece4, 0x2d63e8d9, 0xbf515a9b, 0xa6932e1c, 0x20cbc9f5, 0xa5d13464, 0x5adb5db1, 0xb9737ea3⟩) = ⟨#[52, 49, 101, 100, 101, 99, 101, 52, 50, 100, 54, 51, 101, 56, 100, 57, 98, 102, 53, 49, 53, 97, 57, 98, 97, 54, 57, 51, 50, 101, 49, 99, 50, 48, 99, 98, 99, 57, 102, 53, 97, 53, 100, 49, 51, 52, 54, 52, 53, 97, 100, 98, 53, 100, 98, 49, 98, 57, 55, 51, 55, 101, 97, 51]⟩ := by kernel_rfl
theorem text_1000 : str 64 (dgs (digest 1000 (fun _ => 97))) = ⟨#[52, 49, 101, 100, 101, 99, 101, 52, 50, 100, 54, 51, 101, 56, 100, 57, 98, 102, 53, 49, 53, 97, 57, 98, 97, 54, 57, 51, 50, 101, 49, 99, 50, 48, 99, 98, 99, 57, 102, 53, 97, 53, 100, 49, 51, 52, 54, 52, 53, 97, 100, 98, 53, 100, 98, 49, 98, 57, 55, 51, 55, 101, 97, 51]⟩ := by
  rw [dig_1000]
  exact txt_1000

set_option maxRecDepth 100000 in
set_option maxHeartbeats 4000000 in
theorem long_law (w : World) (x : Nat) (n0 p0 : Int) (hx : x < 256) (hg : Ground w) :
    Calls Tryd.prog 5 #[.int .u8 x, .int .i64 n0, .int .i64 p0] w fun e w' => e = .returned (.bool true) ∧ Below w.heap.size w w' := by
  obtain ⟨n, hn⟩ : ∃ n : Nat, n0 % 70001 = (n : Int) := ⟨(n0 % 70001).toNat, by omega⟩
  obtain ⟨q, hq⟩ : ∃ q : Nat, p0 % 200 = (q : Int) := ⟨(p0 % 200).toNat, by omega⟩
  have n1 : n ≤ 70000 := by omega
  have q1 : q ≤ 199 := by omega
  have r1 := fun w0 => rest_any w0 n0 70001 (by decide) (by decide)
  have r2 := fun w0 => rest_any w0 p0 200 (by decide) (by decide)
  rw [hn] at r1
  rw [hq] at r2
  have HG : Hid (Ground w) := hg
  clear hg hn hq
  have hmk := run_make_row' (P := Tryd.prog) 24 5 (.int .u8 0) 1 Tryd.underlying24 Tryd.info5 rfl .i64 .i64 n (by omega) (by omega)
  go_enter Tryd.func5, Tryd.ntmps5
  go_wp2_with fail
  refine (awake_any _ HG.out).mono ?_
  rintro _ w1 ⟨rfl, hb1⟩
  have HB : Hid (Below w.heap.size w w1) := hb1
  clear hb1
  go_wp2_with fail
  refine (r1 _).mono ?_
  rintro _ w2 ⟨rfl, e2⟩
  subst e2
  go_wp2_with fail
  refine (r2 _).mono ?_
  rintro _ w3 ⟨rfl, e3⟩
  subst e3
  clear r1 r2
  go_wp2_with fail
  clear hmk
  have HM : Hid (Mk w (w3.alloc (.cells (madeCells #[.int .u8 0] n) 5)) w3.heap.size n (fun _ => 0)) := mk_made HB.out n
  obtain ⟨g, hgd⟩ : ∃ g, g = w3.heap.size := ⟨_, rfl⟩
  rw [← hgd] at HM ⊢
  clear hgd HB
  go_loopg [8] n (fun gg i wr => ∃ k : Nat, k ≤ n ∧ gg = n - k ∧ i = .int .i64 k ∧ Mk w wr g n (fun i => if i < k then x else 0))
  case atStart => exact ⟨0, by omega, rfl, rfl, HM.out.congr (fun i _ => by simp)⟩
  case round =>
    obtain ⟨k, hk, rfl, rfl, hR⟩ := hrel
    clear HM
    by_cases hkn : k < n
    · have cc := hR.row.cell hkn
      have fz := hR.row.frozen k
      have HR : Hid (Mk w wr g n (fun i => if i < k then x else 0)) := hR
      clear hR
      go_wp2_with fail
      clear cc fz
      go_roundg (n - (k + 1))
      case measure => omega
      case rel =>
        refine ⟨k + 1, by omega, rfl, by go_num, (HR.out.set k x).congr (fun i _ => ?_)⟩
        by_cases e : i = k
        · rw [if_pos e, if_pos (by omega)]
        · rw [if_neg e]
          by_cases l : i < k
          · rw [if_pos l, if_pos (by omega)]
          · rw [if_neg l, if_neg (by omega)]
    · have HR : Hid (Mk w wr g n (fun _ => x)) := hR.congr (fun i hi => by rw [if_pos (by omega)])
      have k1 : n ≤ k := by omega
      clear hR
      have GW := HG.out.below HR.out.below
      go_wp2_with fail
      refine (new_any _ GW.first).mono ?_
      rintro _ w4 ⟨rfl, st4, hb4⟩
      obtain ⟨p, hpd⟩ : ∃ p, p = wr.heap.size := ⟨_, rfl⟩
      have gl : g < p := by rw [hpd]; exact HR.out.row.lt
      have pl : w.heap.size ≤ p := by rw [hpd]; exact HR.out.below.size
      have HS : Hid (Mk w w4 g n (fun _ => x) ∧ St w4 p 0 (fun _ => x)) := by
        refine ⟨HR.out.step hb4, ?_⟩
        rw [hpd]
        exact st4.congr (fun _ => hx) (fun i hi => absurd hi (by omega))
      rw [← hpd]
      clear hpd st4 hb4 HR GW
      go_wp2_with fail
      go_loopg [10] n (fun gg i wr => ∃ j : Nat, j ≤ n + 200 ∧ gg = n - j ∧ i = .int .i64 j ∧ Mk w wr g n (fun _ => x) ∧ St wr p (min j n) (fun _ => x))
      case atStart => exact ⟨0, by omega, by omega, rfl, HS.out.1, by rw [Nat.zero_min]; exact HS.out.2⟩
      case round =>
        obtain ⟨j, hj, rfl, rfl, hM, hS⟩ := hrel
        clear HS
        by_cases hjn : j < n
        · have em : min j n = j := by omega
          rw [em] at hS
          have GW := HG.out.below hM.below
          have HR : Hid (Mk w wr g n (fun _ => x) ∧ St wr p j (fun _ => x) ∧ Ground wr) := ⟨hM, hS, GW⟩
          have m1 : (0 : Int) ≤ (j : Int) := by omega
          have m2 : ¬ n = j := by omega
          clear hM hS GW em
          by_cases hend : n < j + (1 + q)
          · have m3 : (n : Int) < (j : Int) + (1 + (q : Int)) := by omega
            have m4 : (j : Int) ≤ (n : Int) := by omega
            go_wp2_with fail
            refine (write_any wr p j (fun _ => x) HR.out.2.1 _ g j (n - j) (n - j) (fun _ => x) (HR.out.1.view (fun _ => hx) j (n - j) (by omega) (by omega)) (fun _ => hx) (fun _ => by omega) (by omega) HR.out.2.2.roots HR.out.2.2.big (by have := HG.out.big; omega) (by omega)).mono ?_
            rintro _ w5 ⟨rfl, hs5, st5⟩
            have HN : Hid (Mk w w5 g n (fun _ => x) ∧ St w5 p (min (j + (1 + q)) n) (fun _ => x)) := by
              refine ⟨HR.out.1.save hs5 pl (by omega), ?_⟩
              rw [show min (j + (1 + q)) n = j + (n - j) by omega]
              exact st5.congr (fun _ => hx) (fun i _ => by unfold cat; split <;> rfl)
            clear HR hs5 st5 m1 m2 m3 m4
            go_wp2_with fail
            go_roundg (n - (j + (1 + q)))
            case measure => omega
            case rel => exact ⟨j + (1 + q), by omega, rfl, by go_num, HN.out.1, HN.out.2⟩
          · have m3 : ¬ (n : Int) < (j : Int) + (1 + (q : Int)) := by omega
            have m4 : (j : Int) ≤ (j : Int) + (1 + (q : Int)) := by omega
            have m5 : (j : Int) + (1 + (q : Int)) ≤ (n : Int) := by omega
            have m6 : ((j : Int) + (1 + (q : Int))).toNat = j + (1 + q) := by omega
            go_wp2_with fail
            refine (write_any wr p j (fun _ => x) HR.out.2.1 _ g j (1 + q) (n - j) (fun _ => x) (HR.out.1.view (fun _ => hx) j (1 + q) (by omega) (by omega)) (fun _ => hx) (fun _ => by omega) (by omega) HR.out.2.2.roots HR.out.2.2.big (by have := HG.out.big; omega) (by omega)).mono ?_
            rintro _ w5 ⟨rfl, hs5, st5⟩
            have HN : Hid (Mk w w5 g n (fun _ => x) ∧ St w5 p (min (j + (1 + q)) n) (fun _ => x)) := by
              refine ⟨HR.out.1.save hs5 pl (by omega), ?_⟩
              rw [show min (j + (1 + q)) n = j + (1 + q) by omega]
              exact st5.congr (fun _ => hx) (fun i _ => by unfold cat; split <;> rfl)
            clear HR hs5 st5 m1 m2 m3 m4 m5 m6
            go_wp2_with fail
            go_roundg (n - (j + (1 + q)))
            case measure => omega
            case rel => exact ⟨j + (1 + q), by omega, rfl, by go_num, HN.out.1, HN.out.2⟩
        · have em : min j n = n := by omega
          rw [em] at hS
          have HR : Hid (Mk w wr g n (fun _ => x) ∧ St wr p n (fun _ => x) ∧ Ground wr) := ⟨hM, hS, HG.out.below hM.below⟩
          have j1 : n ≤ j := by omega
          clear hM hS em
          go_wp2_with fail
          refine (sum_any wr p n (fun _ => x) HR.out.2.1 HR.out.2.2.roots HR.out.2.2.big (by omega)).mono ?_
          rintro _ w5 ⟨rfl, hb5⟩
          obtain ⟨D, hD⟩ : ∃ D, D = digest n (fun _ => x) := ⟨_, rfl⟩
          rw [← hD]
          have HD : Hid (D = digest n (fun _ => x)) := hD
          have hl := hash_laid w5 D
          have b56 := ch hb5 hl.2
          have HT : Hid (HashAt ((w5.alloc (.cells Z32 26)).setRow w5.heap.size (hashA D)) w5.heap.size D ∧ Mk w ((w5.alloc (.cells Z32 26)).setRow w5.heap.size (hashA D)) g n (fun _ => x) ∧ St ((w5.alloc (.cells Z32 26)).setRow w5.heap.size (hashA D)) p n (fun _ => x) ∧ Ground ((w5.alloc (.cells Z32 26)).setRow w5.heap.size (hashA D))) :=
            ⟨hl.1, HR.out.1.step b56, HR.out.2.1.below b56, HR.out.2.2.below b56⟩
          clear hD hb5 hl b56 HR
          obtain ⟨g12, hg12⟩ : ∃ g, g = w5.heap.size := ⟨_, rfl⟩
          go_wp2_with (refine wpList_store_row (by rfl) 26 (.tmp 12) (.tmp 57) (by rfl) w5.heap.size (hashA D) (by rfl) (by rfl) 26 Z32 (heap_alloc_new _ _) (hashA_info _) (Z32_hash _) (hashA_one _) ?_; change wpList _ _ _ _ _ ((w5.alloc (.cells Z32 26)).setRow w5.heap.size (hashA D)); revert HT; generalize (w5.alloc (.cells Z32 26)).setRow w5.heap.size (hashA D) = w6; intro HT)
          have ha := HT.out.1
          have bdr : Below w6.heap.size w6 w6.drew := (Below.refl _ _).drew
          have r0 : w6.drew.rangeAt w5.heap.size 0 (hashL D) := (ha.below bdr).range
          have rA : ∀ o, (w6.drew.alloc o).rangeAt w5.heap.size 0 (hashL D) := fun o => (ha.below (bdr.alloc (Nat.le_refl _) o)).range
          have c15 := sum_one w6.drew (some ⟨g, 0, none⟩) g 0 n n 24 1 (fun _ => x) (((HT.out.2.1.step bdr).view (fun _ => hx) 0 n (by omega) (by omega))) (Nat.le_refl _) (fun _ => hx) (HT.out.2.2.2.below bdr).first (HT.out.2.2.2.below bdr).roots (HT.out.2.2.2.below bdr).big
          rw [← HD.out] at c15
          have eqh := fun w0 => eq_hashL w0 D
          have hu26 := Tryd.underlying26
          have hl26 := hashL_len D
          have HA : Hid (HashAt w6 w5.heap.size D) := ha
          have HBD : Hid (∀ w7, Below (w6.drew.alloc (.cells #[.slice (some ⟨g, 0, none⟩) n n] 24)).heap.size (w6.drew.alloc (.cells #[.slice (some ⟨g, 0, none⟩) n n] 24)) w7 → Below w6.heap.size w6 w7) := fun w7 h => ch (bdr.alloc (Nat.le_refl _) _) h
          clear ha
          go_region_held3 (fun w' => w'.rangeAt w5.heap.size 0 (hashL D))
            (first
              | exact r0
              | exact rA _
              | exact r7
              | go_keep)
            (first | (go_at_call 15; refine c15.mono ?_; rintro _ w7 ⟨rfl, hb7⟩; have r7 : w7.rangeAt w5.heap.size 0 (hashL D) := (HA.out.below (HBD.out w7 hb7)).range; have st7 : St w7 p n (fun _ => x) := HT.out.2.2.1.below (HBD.out w7 hb7)) | (go_at_call 10; refine (len_any _ p n _ st7).mono ?_; rintro _ w8 ⟨rfl, e8⟩; subst e8))
          have bw : Below w.heap.size w w8 := HT.out.2.1.below.trans ((HBD.out w8 hb7).mono HT.out.2.1.below.size)
          have HW8 : Hid (Below w.heap.size w w8) := bw
          have hmk2 := run_make_row' (P := Tryd.prog) 24 5 (.int .u8 0) 1 Tryd.underlying24 Tryd.info5 rfl .i64 .i64 1000 (by omega) (by omega)
          rw [show ((1000 : Nat) : Int) = (1000 : Int) from rfl] at hmk2
          clear r7 st7 hb7 HBD HA hu26 hl26 eqh c15 rA r0 bdr HT HD bw
          go_wp2_with fail
          clear hmk2
          have HM3 : Hid (Mk w (w8.alloc (.cells (madeCells #[.int .u8 0] 1000) 5)) w8.heap.size 1000 (fun _ => 0)) := mk_made HW8.out 1000
          obtain ⟨g3, hg3⟩ : ∃ g, g = w8.heap.size := ⟨_, rfl⟩
          rw [← hg3] at HM3 ⊢
          clear hg3 HW8
          go_loopg [14] 1000 (fun gg i wr => ∃ k : Nat, k ≤ 1000 ∧ gg = 1000 - k ∧ i = .int .i64 k ∧ Mk w wr g3 1000 (fun i => if i < k then 97 else 0))
          case atStart => exact ⟨0, by omega, rfl, rfl, HM3.out.congr (fun i _ => by simp)⟩
          case round =>
            obtain ⟨k2, hk2, rfl, rfl, hR⟩ := hrel
            clear HM3
            by_cases hkn : k2 < 1000
            · have cc := hR.row.cell hkn
              have fz := hR.row.frozen k2
              have HR : Hid (Mk w wr g3 1000 (fun i => if i < k2 then 97 else 0)) := hR
              clear hR
              go_wp2_with fail
              clear cc fz
              go_roundg (1000 - (k2 + 1))
              case measure => omega
              case rel =>
                refine ⟨k2 + 1, by omega, rfl, by go_num, (HR.out.set k2 97).congr (fun i _ => ?_)⟩
                by_cases e : i = k2
                · rw [if_pos e, if_pos (by omega)]
                · rw [if_neg e]
                  by_cases l : i < k2
                  · rw [if_pos l, if_pos (by omega)]
                  · rw [if_neg l, if_neg (by omega)]
            · have HR : Hid (Mk w wr g3 1000 (fun _ => 97)) := hR.congr (fun i hi => by rw [if_pos (by omega)])
              have k1 : 1000 ≤ k2 := by omega
              clear hR
              have GW := HG.out.below HR.out.below
              have c15 := sum_one wr (some ⟨g3, 0, none⟩) g3 0 1000 1000 24 1 (fun _ => 97) (HR.out.view (fun _ => by decide) 0 1000 (by omega) (by omega)) (Nat.le_refl _) (fun _ => by decide) GW.first GW.roots GW.big
              have bA : Below wr.heap.size wr (wr.alloc (.cells #[.slice (some ⟨g3, 0, none⟩) 1000 1000] 24)) := (Below.refl _ _).alloc (Nat.le_refl _) _
              have HBA : Hid (Below w.heap.size w (wr.alloc (.cells #[.slice (some ⟨g3, 0, none⟩) 1000 1000] 24))) := HR.out.below.trans (bA.mono HR.out.below.size)
              clear GW bA
              go_wp2_with fail
              refine c15.mono ?_
              rintro _ w9 ⟨rfl, hb9⟩
              have bw9 : Below w.heap.size w w9 := HBA.out.trans (hb9.mono HBA.out.size)
              have hl := hash_laid w9 (digest 1000 (fun _ => 97))
              have HT : Hid (HashAt ((w9.alloc (.cells Z32 26)).setRow w9.heap.size (hashA (digest 1000 (fun _ => 97)))) w9.heap.size (digest 1000 (fun _ => 97)) ∧ Below w.heap.size w ((w9.alloc (.cells Z32 26)).setRow w9.heap.size (hashA (digest 1000 (fun _ => 97))))) := ⟨hl.1, bw9.trans (hl.2.mono bw9.size)⟩
              clear hl bw9 hb9 c15 HBA HR
              go_wp2_with (first | refine wpList_load_cells (by rfl) 26 (.tmp 15) (by rfl) w9.heap.size (by rfl) (hashA (digest 1000 (fun _ => 97))) _ hc15 Tryd.underlying26 rfl (hashA_info _) ?_ | (refine wpList_store_row (by rfl) 26 (.tmp 15) (.tmp 81) (by rfl) w9.heap.size (hashA (digest 1000 (fun _ => 97))) (by rfl) (by rfl) 26 Z32 (heap_alloc_new _ _) (hashA_info _) (Z32_hash _) (hashA_one _) ?_; change wpList _ _ _ _ _ ((w9.alloc (.cells Z32 26)).setRow w9.heap.size (hashA (digest 1000 (fun _ => 97)))); revert HT; generalize (w9.alloc (.cells Z32 26)).setRow w9.heap.size (hashA (digest 1000 (fun _ => 97))) = w10; intro HT; have hc15 := HT.out.1.cells))
              refine (digits_any _ _).mono ?_
              rintro _ w11 ⟨rfl, hb11⟩
              have HE : Hid (Below w.heap.size w w11) := HT.out.2.trans (hb11.mono HT.out.2.size)
              clear hb11 HT hc15
              rw [text_1000]
              go_wp2
              go_ret
              exact ⟨rfl, HE.out⟩
end Go.Proofs.YtdhenfepfkmhhaaDoor
