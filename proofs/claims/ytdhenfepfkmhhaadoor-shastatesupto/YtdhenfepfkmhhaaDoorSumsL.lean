/-
  ShaSums: the law.
-/
import Derived.Test.YtdhenfepfkmhhaaDoorSumsW
import Derived.Test.YtdhenfepfkmhhaaDoorEqH
namespace Go.Proofs.YtdhenfepfkmhhaaDoor
open Go.RowKit

theorem own_at {w : World} {B e n : Nat} {v : Value} {F : Nat → Value} (h : w.ownsRow B e 1 v n (svals F n)) (h0 : 0 < n) : ∃ g cap, v = .slice (some ⟨g, 0, none⟩) n cap ∧ n ≤ cap ∧ B ≤ g ∧ g < w.heap.size ∧ ∀ i, i < n → w.cell? ⟨g, i, none⟩ = some (F i) := by
  obtain ⟨g, cap, hv, hc, hB, hg⟩ := own_slice h h0
  refine ⟨g, cap, hv, hc, hB, hg, fun i hi => ?_⟩
  subst hv
  rw [h.cellAt i (by omega)]
  simp [svals, hi]
theorem Sms.start {w w1 : World} (m : Nat → Nat) (Y : Nat → Nat → Nat) (hb : Below w.heap.size w w1) : Sms w w1 0 m Y (.slice none 0 0) (.slice none 0 0) (fun _ => 0) (fun _ => 0) :=
  ⟨hb, World.ownsRow_nil _ _ _ _, World.ownsRow_nil _ _ _ _, fun b h => by simp [Value.ownBlock] at h, fun i hi => absurd hi (by omega), fun i hi => absurd hi (by omega), fun i hi => absurd hi (by omega)⟩
theorem Sms.parts {w wr : World} {k : Nat} {m : Nat → Nat} {Y : Nat → Nat → Nat} {vi vo : Value} {g cap : Nat → Nat} (h : Sms w wr k m Y vi vo g cap) (hY : ∀ i j, Y i j < 256) (hm : ∀ i, i < k → m i ≤ 1099511627776) :
    ∃ pa pb c, vi = .slice pa k c ∧ Parts wr pa pb 0 k (fun i => some ⟨g i, 0, none⟩) g (fun _ => 0) m cap Y := by
  have hview : ∀ i, i < k → View wr (some ⟨g i, 0, none⟩) (g i) 0 (m i) (fun j => (Y i j : Int)) := fun i hi => by
    refine ⟨fun _ => rfl, fun j hj => ?_, fun j hj => ?_, by have := hm i hi; omega⟩
    · rw [Nat.zero_add, h.row i hi j (by omega), rm_low hj]
    · have := hY i j
      omega
  by_cases h0 : 0 < k
  · obtain ⟨b, c, hv, hc, _, _, hcell⟩ := own_at h.own1 h0
    exact ⟨_, b, c, hv, fun _ => rfl, fun i hi => by rw [Nat.zero_add]; exact hcell i hi, hview, fun i hi => by have := h.room i hi; omega, hY⟩
  · have hk : k = 0 := by omega
    subst hk
    rcases h.own1.2 with ⟨h1, _⟩ | ⟨b, c, cur, h1, _⟩
    · exact ⟨none, 0, 0, h1, fun h => absurd h (by omega), fun i hi => absurd hi (by omega), fun i hi => absurd hi (by omega), fun i hi => absurd hi (by omega), hY⟩
    · exact ⟨_, b, c, h1, fun h => absurd h (by omega), fun i hi => absurd hi (by omega), fun i hi => absurd hi (by omega), fun i hi => absurd hi (by omega), hY⟩
theorem tot_at (m : Nat → Nat) {i k : Nat} (h : i < k) : m i ≤ tot m k := by
  have := tot_mono m (show i + 1 ≤ k by omega)
  simp only [tot] at this
  omega
theorem cell_new1 (w : World) (u : Value) (t : TypeId) : (w.alloc (.cells #[u] t)).cell? ⟨w.heap.size, 0, none⟩ = some u := by
  rw [cell_of_row _ _ _ _ t _ (heap_alloc_new w _)]
  rfl

set_option maxRecDepth 100000 in
set_option maxHeartbeats 4000000 in
theorem sums_law (w : World) (pa : Option Addr) (pb po k capP : Nat) (A : Nat → Option Addr) (b off m c : Nat → Nat) (Y : Nat → Nat → Nat) (h : Parts w pa pb po k A b off m c Y) (hnil : ∀ i, i < k → A i = none → c i = 0) (hg : Ground w) (hr : Rounds w) (hw : 4 < w.heap.size) (hk : k ≤ 1048576) (ht : tot m k ≤ 1048576) :
    Calls Tryd.prog 6 #[.slice pa k capP] w fun e w' => e = .returned (.bool true) ∧ Below w.heap.size w w' := by
  have hmi : ∀ i, i < k → m i ≤ 1048576 := fun i hi => by have := tot_at m hi; omega
  have HP : Hid (Parts w pa pb po k A b off m c Y) := h
  have HG : Hid (Ground w ∧ Rounds w) := ⟨hg, hr⟩
  clear h hg hr
  go_enter Tryd.func6, Tryd.ntmps6
  go_wp2_with fail
  refine (awake_any _ HG.out.1).mono ?_
  rintro _ w1 ⟨rfl, hb1⟩
  have HS : Hid (Sms w w1 0 m Y (.slice none 0 0) (.slice none 0 0) (fun _ => 0) (fun _ => 0)) := Sms.start m Y hb1
  clear hb1
  go_wp2_with fail
  go_loopg [3, 4, 5] k (fun g vi vo i wr => ∃ (j : Nat) (gf cf : Nat → Nat), j ≤ k ∧ g = k - j ∧ i = .int .i64 j ∧ Sms w wr j m Y vi vo gf cf)
  case atStart => exact ⟨0, _, _, by omega, rfl, rfl, HS.out⟩
  case round =>
    obtain ⟨j, gf, cf, hj, rfl, rfl, hR⟩ := hrel
    clear HS
    by_cases hjk : j < k
    · obtain rfl := HP.out.at_ (by omega)
      have cj : wr.cell? ⟨pb, po + j, none⟩ = some (.slice (A j) (m j) (c j)) := (HP.out.below hR.below).cell j hjk
      have HV : Hid (View wr (A j) (b j) (off j) (m j) (fun t => (Y j t : Int))) := (HP.out.below hR.below).view j hjk
      have mj := hmi j hjk
      have HR : Hid (Sms w wr j m Y u3 u4 gf cf) := hR
      clear hR
      go_wp2_with fail
      refine (copied_any wr (A j) (b j) (off j) (m j) (c j) _ HV.out (hnil j hjk) (by omega)).mono ?_
      rintro _ w2 ⟨gg, cg, rfl, own, hcap, hgB, hgl, hb2⟩
      have S2 := HR.out.step hb2
      have lo := S2.below.size
      have own1 := S2.own1
      have HX : Hid (Sms w wr j m Y u3 u4 gf cf ∧ Below wr.heap.size wr w2 ∧ Sms w w2 j m Y u3 u4 gf cf ∧ ∀ i, i < m j + 2 → w2.cell? ⟨gg, i, none⟩ = some (.int .u8 (rm (m j) (fun t => (Y j t : Int)) i))) := by
        refine ⟨HR.out, hb2, S2, fun i hi => ?_⟩
        rw [own.cellAt i (by omega)]
        simp [vals, hi]
      clear own HR hb2 S2 cj HV
      go_wp2_with (refine wpList_append_one (by rfl) (.tmp 28) (.tmp 30) (by rfl) w.heap.size _ j _ (by rfl) (own1.alloc _) w2.heap.size 1 (.slice (some ⟨gg, 0, none⟩) (m j) cg) (by rfl) (cell_new1 w2 _ 24) rfl (by omega) (by simp; omega) (w2.heap.size + 1) (by simp) ?_)
      intro g1 c1 w3 own3 gr3 at3 lt3
      have own2 : w3.ownsRow w.heap.size 24 1 u4 j (svals (F2 gf cf m) j) := by
        refine own_keep HX.out.2.2.1.own2 (fun bb e => ?_)
        rw [gr3.block bb (by rw [World.size_alloc]; have := (HX.out.2.2.1.own2.lt bb e).2; omega) (fun e2 => HX.out.1.ne bb e2.symm e), heap_alloc_old _ _ (HX.out.2.2.1.own2.lt bb e).2]
      have lo3 := gr3.size
      rw [World.size_alloc] at lo3
      have HY : Hid (w3.ownsRow w.heap.size 24 1 (.slice (some ⟨g1, 0, none⟩) (j + 1) c1) (j + 1) (svals (F1 gf cf m) j ++ [.slice (some ⟨gg, 0, none⟩) (m j) cg]) ∧ (w2.alloc (.cells #[.slice (some ⟨gg, 0, none⟩) (m j) cg] 24)).grownBy w3 u3.ownBlock ∧ (u3.ownBlock = some g1 ∨ g1 = w2.heap.size + 1) ∧ g1 < w3.heap.size) := ⟨own3, gr3, at3, lt3⟩
      clear own1 own3 gr3 at3 lt3
      go_wp2_with (refine wpList_append_one (by rfl) (.tmp 32) (.tmp 34) (by rfl) w.heap.size _ j _ (by rfl) (own2.alloc _) w3.heap.size 1 (.slice (some ⟨gg, 0, none⟩) (m j + 2) cg) (by rfl) (cell_new1 w3 _ 24) rfl (by omega) (by simp; omega) (w3.heap.size + 1) (by simp) ?_)
      intro g2 c2 w4 own4 gr4 at4 lt4
      have HN : Hid (Sms w w4 (j + 1) m Y (.slice (some ⟨g1, 0, none⟩) (j + 1) c1) (.slice (some ⟨g2, 0, none⟩) (j + 1) c2) (upd gf j gg) (upd cf j cg)) :=
        HX.out.1.push HX.out.2.1 hgB hgl HX.out.2.2.2 hcap HY.out.2.1 HY.out.1 (by simpa using HY.out.2.2.1) HY.out.2.2.2 gr4 own4 (by simpa using at4) lt4
      clear own2 own4 gr4 at4 lt4 HX HY
      go_wp2_with fail
      go_roundg (k - (j + 1))
      case measure => omega
      case rel => exact ⟨j + 1, _, _, by omega, rfl, by go_num, HN.out⟩
    · have hjk2 : j = k := by omega
      subst hjk2
      have PW := HP.out.below hR.below
      have HR : Hid (Sms w wr j m Y u3 u4 gf cf ∧ Parts wr pa pb po j A b off m c Y) := ⟨hR, PW⟩
      clear hR PW
      have hz := HR.out.1.below.size
      go_wp2_with fail
      refine (join_any wr pa pb po j capP A b off m c Y HR.out.2 hnil (by omega) (by omega)).mono ?_
      rintro _ w2 ⟨vj, rfl, ownj, hb2⟩
      obtain ⟨aj, gj, cj, rfl, vwj, hcj, hnj, _⟩ := view_own2 ownj (fun i _ => by have := jn_lt (m := m) HP.out.bd j i; unfold jz; omega) (by omega)
      have HJ : Hid (View w2 aj gj 0 (tot m j) (fun i => ((jn m Y j i : Nat) : Int)) ∧ Below wr.heap.size wr w2) := ⟨vwj, hb2⟩
      clear ownj vwj hb2
      have bw2 : Below w.heap.size w w2 := HR.out.1.below.trans (HJ.out.2.mono hz)
      have HB2 : Hid (Below w.heap.size w w2) := bw2
      have z2 := bw2.size
      clear bw2
      go_wp2_with fail
      refine (rsum_any w2 aj gj 0 (tot m j) cj (jn m Y j) HJ.out.1 (jn_lt HP.out.bd j) hnj (by omega) (HG.out.2.below HB2.out hw) (by omega)).mono ?_
      rintro _ w3 ⟨rfl, hb3⟩
      obtain ⟨D, hD⟩ : ∃ D, D = digest (tot m j) (jn m Y j) := ⟨_, rfl⟩
      rw [← hD]
      have HD : Hid (D = digest (tot m j) (jn m Y j)) := hD
      clear hD
      have hl := hash_laid w3 D
      have S3 := ((HR.out.1.step HJ.out.2).step hb3).step hl.2
      have HT : Hid (HashAt ((w3.alloc (.cells Z32 26)).setRow w3.heap.size (hashA D)) w3.heap.size D ∧ Sms w ((w3.alloc (.cells Z32 26)).setRow w3.heap.size (hashA D)) j m Y u3 u4 gf cf) := ⟨hl.1, S3⟩
      clear hl S3 hb3
      go_wp2_with (refine wpList_store_row (by rfl) 26 (.tmp 8) (.tmp 38) (by rfl) w3.heap.size (hashA D) (by rfl) (by rfl) 26 Z32 (heap_alloc_new _ _) (hashA_info _) (Z32_hash _) (hashA_one _) ?_; change wpList _ _ _ _ _ ((w3.alloc (.cells Z32 26)).setRow w3.heap.size (hashA D)); revert HT; generalize (w3.alloc (.cells Z32 26)).setRow w3.heap.size (hashA D) = w4; intro HT)
      obtain ⟨p1, pb1, cp1, e1, PI⟩ := HT.out.2.parts HP.out.bd (fun i hi => by have := hmi i hi; omega)
      subst e1
      have HI : Hid (Parts w4 p1 pb1 0 j (fun i => some ⟨gf i, 0, none⟩) gf (fun _ => 0) m cf Y) := PI
      clear PI
      have z4 := HT.out.2.below.size
      go_wp2_with fail
      refine (sums_any w4 p1 pb1 0 j cp1 _ gf _ m cf Y HI.out (HG.out.1.below HT.out.2.below).roots (HG.out.1.below HT.out.2.below).first (by omega) (by omega) (by omega)).mono ?_
      rintro _ w5 ⟨rfl, hb5⟩
      rw [← HD.out]
      have hl := hash_laid w5 D
      have b46 := ch hb5 hl.2
      have HU : Hid (HashAt ((w5.alloc (.cells Z32 26)).setRow w5.heap.size (hashA D)) w5.heap.size D ∧ HashAt ((w5.alloc (.cells Z32 26)).setRow w5.heap.size (hashA D)) w3.heap.size D ∧ Sms w ((w5.alloc (.cells Z32 26)).setRow w5.heap.size (hashA D)) j m Y (.slice p1 j cp1) u4 gf cf) := ⟨hl.1, HT.out.1.below b46, HT.out.2.step b46⟩
      clear hl hb5 b46 HT HI HJ HB2 HR
      go_wp2_with (first | refine wpList_load_cells (by rfl) 26 (.tmp 9) (by rfl) w5.heap.size (by rfl) (hashA D) _ hc9 Tryd.underlying26 rfl (hashA_info _) ?_ | refine wpList_load_cells (by rfl) 26 (.tmp 8) (by rfl) w3.heap.size (by rfl) (hashA D) _ hc8 Tryd.underlying26 rfl (hashA_info _) ?_ | (refine wpList_store_row (by rfl) 26 (.tmp 9) (.tmp 40) (by rfl) w5.heap.size (hashA D) (by rfl) (by rfl) 26 Z32 (heap_alloc_new _ _) (hashA_info _) (Z32_hash _) (hashA_one _) ?_; change wpList _ _ _ _ _ ((w5.alloc (.cells Z32 26)).setRow w5.heap.size (hashA D)); revert HU; generalize (w5.alloc (.cells Z32 26)).setRow w5.heap.size (hashA D) = w6; intro HU; have eqh := eq_hashA w6 D; have hc9 := HU.out.1.cells; have hc8 := HU.out.2.1.cells))
      clear eqh hc9 hc8
      have HS6 : Hid (Sms w w6 j m Y (.slice p1 j cp1) u4 gf cf) := HU.out.2.2
      clear HU HD
      go_loopg [10] j (fun g i wr => ∃ t : Nat, t ≤ j ∧ g = j - t ∧ i = .int .i64 t ∧ Sms w wr j m Y (.slice p1 j cp1) u4 gf cf)
      case atStart => exact ⟨0, by omega, rfl, rfl, HS6.out⟩
      case round =>
        obtain ⟨t, htj, rfl, rfl, hR⟩ := hrel
        clear HS6
        by_cases htk : t < j
        · obtain ⟨g2, c2, e2, hc2, hB2, hl2, cell2⟩ := own_at hR.own2 (by omega)
          obtain ⟨g1, c1, e1, hc1, hB1, hl1, cell1⟩ := own_at hR.own1 (by omega)
          have e3 : p1 = some ⟨g1, 0, none⟩ ∧ cp1 = c1 := by
            simp only [Value.slice.injEq] at e1
            exact ⟨e1.1, e1.2.2⟩
          obtain ⟨rfl, rfl⟩ := e3
          subst e2
          obtain rfl := HP.out.at_ (by omega)
          have PW := HP.out.below hR.below
          have r4 : wr.cell? ⟨g2, t, none⟩ = some (.slice (some ⟨gf t, 0, none⟩) (m t + 2) (cf t)) := cell2 t htk
          have i4 : wr.cell? ⟨g1, t, none⟩ = some (.slice (some ⟨gf t, 0, none⟩) (m t) (cf t)) := cell1 t htk
          have p4 : wr.cell? ⟨pb, po + t, none⟩ = some (.slice (A t) (m t) (c t)) := PW.cell t htk
          have mt := hmi t htk
          have rt := hR.room t htk
          have m0 : wr.cell? ⟨gf t, m t, none⟩ = some (.int .u8 90) := by rw [hR.row t htk (m t) (by omega), rm_0]
          have m1 : wr.cell? ⟨gf t, m t + 1, none⟩ = some (.int .u8 165) := by rw [hR.row t htk (m t + 1) (by omega), rm_1]
          have V1 : Hid (View wr (some ⟨gf t, 0, none⟩) (gf t) 0 (m t) (fun x => (Y t x : Int)) ∧ View wr (A t) (b t) (off t) (m t) (fun x => (Y t x : Int))) := by
            refine ⟨⟨fun _ => rfl, fun x hx => ?_, fun x hx => ?_, by omega⟩, PW.view t htk⟩
            · rw [Nat.zero_add, hR.row t htk x (by omega), rm_low hx]
            · have := HP.out.bd t x
              omega
          have HR : Hid (Sms w wr j m Y (.slice (some ⟨g1, 0, none⟩) j cp1) (.slice (some ⟨g2, 0, none⟩) j c2) gf cf) := hR
          have q1 : (m t : Int) ≤ (cf t : Int) := by omega
          have q2 : (0 : Int) ≤ (m t : Int) := by omega
          have q3 : (m t : Int) < (m t : Int) + 2 := by omega
          have q4 : (m t : Int) + 1 < (m t : Int) + 2 := by omega
          clear hR PW cell1 cell2 e1 hc1 hB1 hl1 hc2 hB2 hl2
          go_wp2_with fail
          go_quiet (first | (go_at_call 20; refine Calls.quiet_of (same_yes _ (some ⟨gf t, 0, none⟩) (A t) (gf t) 0 (m t) _ (b t) (off t) _ _ (V1.out.1.drewN _) (V1.out.2.drewN _))))
          have HN : Hid (Sms w (wr.drewN nq) j m Y (.slice (some ⟨g1, 0, none⟩) j cp1) (.slice (some ⟨g2, 0, none⟩) j c2) gf cf) := HR.out.step (below_drewN (Below.refl _ _) nq)
          clear HR V1 r4 i4 p4 m0 m1
          go_wp2_with fail
          go_roundg (j - (t + 1))
          case measure => omega
          case rel => exact ⟨t + 1, by omega, rfl, by go_num, HN.out⟩
        · have HR : Hid (Below w.heap.size w wr) := hR.below
          clear hR
          have t1 : j ≤ t := by omega
          go_wp2_with fail
          go_ret
          exact ⟨rfl, HR.out⟩
end Go.Proofs.YtdhenfepfkmhhaaDoor
