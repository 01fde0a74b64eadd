/-
  PathBack: the law.
-/
import Derived.Test.YtdjbideobdaamaaBkA
namespace Go.Proofs.Ytdjbideobdaamaa
open Go.RowKit

set_option maxRecDepth 100000 in
set_option maxHeartbeats 1600000 in
theorem pback_any (w : World) (v u : Value) (s t : List Nat) (hv : Vb w v s) (hu : Vb w u t) :
    Calls Try.prog 3 #[v, u] w fun e w' => e = .returned (.bool true) ∧ Below w.heap.size w w' := by
  obtain ⟨a, b, off, c, rfl, hv, hc, hnil, hl⟩ := hv
  obtain ⟨a', c', eu⟩ : ∃ a' c', u = .slice a' t.length c' := by
    obtain ⟨a', b', off', c', rfl, _⟩ := hu
    exact ⟨a', c', rfl⟩
  subst eu
  have HT : Hid (Vb w (.slice a' t.length c') t) := hu
  have HV : Hid (Vw w a b off s) := hv
  obtain ⟨M, hM⟩ : ∃ M, M = min s.length 64 := ⟨_, rfl⟩
  have m1 : M ≤ s.length := by omega
  have m2 : M ≤ 64 := by omega
  have m3 : s.length ≤ M ∨ 64 ≤ M := by omega
  have HM : Hid (s.length ≤ M ∨ 64 ≤ M) := m3
  obtain ⟨n, en⟩ : ∃ n, n = s.length := ⟨_, rfl⟩
  have HE : Hid (n = s.length) := en
  obtain ⟨n', en'⟩ : ∃ n', n' = t.length := ⟨_, rfl⟩
  rw [← en'] at HT ⊢
  rw [← en] at hl hc m1 HM ⊢
  clear hv hu hM m3 en en'
  go_enter Try.func3, Try.ntmps3
  go_wp2_with fail
  go_loopg [5, 6] M (fun g v i wr => ∃ k : Nat, k ≤ M ∧ g = M - k ∧ i = .int .i64 k ∧ wr.ownsRow w.heap.size 5 1 v k (vals (fun i => ((gd s i % 16 : Nat) : Int)) k) ∧ Below w.heap.size w wr)
  case atStart => exact ⟨0, Nat.zero_le _, rfl, rfl, World.ownsRow_nil _ _ _ _, Below.refl _ _⟩
  case round =>
    obtain ⟨k, hk, rfl, rfl, hown, hbel⟩ := hrel
    have hsz := hbel.size
    by_cases hkM : k < M
    · have ek : k < s.length := by rw [← HE.out]; omega
      obtain rfl := HV.out.at_ (by omega)
      have hlt := HV.out.lt (by omega)
      have c1 : wr.cell? ⟨b, off + k, none⟩ = some (.int .u8 ((gd s k : Nat) : Int)) := (hbel.cell (p := ⟨b, off + k, none⟩) hlt).trans (HV.out.cell k ek)
      have z1 : gd s k < 256 := gd_lt (vw_ok HV.out).2 k
      have HX : Hid (vals (fun i => ((gd s i % 16 : Nat) : Int)) k ++ [.int .u8 ((gd s k % 16 : Nat) : Int)] = vals (fun i => ((gd s i % 16 : Nat) : Int)) (k + 1)) := vals_succ _ k
      obtain ⟨x, hx⟩ : ∃ x, x = gd s k := ⟨_, rfl⟩
      rw [← hx] at c1 z1 HX
      have HO : Hid (wr.ownsRow w.heap.size 5 1 _ k (vals (fun i => ((gd s i % 16 : Nat) : Int)) k) ∧ Below w.heap.size w wr) := ⟨hown, hbel⟩
      have i1 : (k : Int) < (n : Int) := by omega
      have i2 : (k : Int) < 64 := by omega
      have x0 : (0 : Int) ≤ (x : Int) := by omega
      have x1 : (x : Int) ≤ 255 := by omega
      have x2 : (x : Int).tmod 16 = (x : Int) % 16 := Int.tmod_eq_emod_of_nonneg x0
      have x3 : IntKind.u8.wrap ((x : Int) % 16) = (x : Int) % 16 := u8_same _ (by omega) (by omega)
      clear hx ek hown hbel
      go_wp2_with (refine wpList_append_bytes (by rfl) (.tmp 32) (.tmp 38) (by rfl) w.heap.size _ k _ (by rfl) (HO.out.1.alloc _) (some ⟨wr.heap.size, 0, none⟩) wr.heap.size 0 1 1 _ (by rfl) (view_new1 wr ((x : Int) % 16) (by omega) (by omega)) (fun h => by cases h) (by omega) (by simp; omega) ?_)
      intro v1 w1 own1 gr1 nn1
      have b1 : Below w.heap.size w w1 := (HO.out.2.alloc hsz _).trans (grown_below gr1 (HO.out.1.alloc _) (Nat.le_refl _) (by simp; omega))
      replace own1 : w1.ownsRow w.heap.size 5 1 v1 (k + 1) (vals (fun i => ((gd s i % 16 : Nat) : Int)) (k + 1)) := by
        have e := HX.out
        rw [← e]
        exact own1
      clear gr1 nn1 HO HX c1
      go_wp2_with fail
      go_roundg (M - (k + 1))
      case measure => omega
      case rel => exact ⟨k + 1, by omega, rfl, by go_num, own1, b1⟩
    · have k1 : k = M := by omega
      subst k1
      rw [s1_vals] at hown
      have HA : Hid (Ans w wr _ (s1 s k)) := ⟨by rw [s1_len]; exact hown, fun x hx => by
        unfold s1 lst at hx
        obtain ⟨i, -, rfl⟩ := List.mem_map.1 hx
        omega, by rw [s1_len]; omega, hbel⟩
      clear hown hbel HV hnil
      have HS : Hid (IsP (s1 s k) ∧ (s1 s k).length = k) := ⟨s1_path s k m2, s1_len s k⟩
      obtain ⟨S, eS⟩ : ∃ S, S = s1 s k := ⟨_, rfl⟩
      rw [← eS] at HA HS
      obtain ⟨a5, c5, e5⟩ := HA.out.form
      rw [HS.out.2] at e5
      subst e5
      clear eS
      obtain ⟨L, eL⟩ : ∃ L, L = 1 + k / 2 := ⟨_, rfl⟩
      have HL : Hid (L = 1 + k / 2) := eL
      have L1 : 0 < L := by omega
      have L2 : L ≤ 33 := by omega
      have r1 : IntKind.i64.wrap ((k : Int).tdiv 2) = (k : Int) / 2 := by rw [IntKind.wrap_i64, Int.tdiv_eq_ediv_of_nonneg (by omega)]; omega
      have r1b : (k : Int).tdiv 2 = (k : Int) / 2 := Int.tdiv_eq_ediv_of_nonneg (by omega)
      have r1c : IntKind.i64.wrap ((k : Int) / 2) = (k : Int) / 2 := by rw [IntKind.wrap_i64]; omega
      have r2 : IntKind.i64.wrap ((k : Int) / 2 + 1) = (L : Int) := by rw [IntKind.wrap_i64]; omega
      clear eL
      have hcase : ((k : Int) < (n : Int) ∧ ¬ (k : Int) < 64) ∨ ¬ (k : Int) < (n : Int) := by
        rcases HM.out with x | x
        · right; omega
        · by_cases y : (k : Int) < (n : Int)
          · left; refine ⟨y, ?_⟩; omega
          · right; exact y
      rcases hcase with ⟨i1, i2⟩ | i2
      all_goals (
        go_wp2_with fail
        refine (pack_ok true HA.out.vb HS.out.1).mono ?_
        rintro e w1 ⟨g1, cp, rfl, hcp, hp1⟩
        rw [HS.out.2, ← HL.out] at hcp hp1 ⊢
        have HP : Hid (Ans wr w1 (.slice (some ⟨g1, 0, none⟩) L cp) (pkL true S)) := hp1
        have HA1 : Hid (Vb w1 (.slice a5 k c5) S ∧ Below w.heap.size w w1) := ⟨HA.out.vb.keep hp1.below, ch HA.out.below hp1.below⟩
        clear hp1 HA
        go_wp2_with fail
        refine (pack_ok false HA1.out.1 HS.out.1).mono ?_
        rintro e w2 ⟨g2, cq, rfl, hcq, hq1⟩
        rw [HS.out.2, ← HL.out] at hcq hq1 ⊢
        have HQ : Hid (Vb w2 (.slice (some ⟨g1, 0, none⟩) L cp) (pkL true S) ∧ Vb w2 (.slice (some ⟨g2, 0, none⟩) L cq) (pkL false S) ∧ Vb w2 (.slice a5 k c5) S ∧ Below w.heap.size w w2) := ⟨HP.out.vb.keep hq1.below, hq1.vb, HA1.out.1.keep hq1.below, ch HA1.out.2 hq1.below⟩
        have hp0 : w2.cell? ⟨g1, 0, none⟩ = some (.int .u8 ((pkY true S 0 : Nat) : Int)) := by
          have q := HP.out
          rw [HL.out, ← HS.out.2] at q
          have := ans_first q
          rw [hq1.below.cell (p := ⟨g1, 0, none⟩) (World.block_lt_of_cell? _ _ this)]
          exact this
        have hq0 : w2.cell? ⟨g2, 0, none⟩ = some (.int .u8 ((pkY false S 0 : Nat) : Int)) := by
          have q := hq1
          rw [HL.out, ← HS.out.2] at q
          exact ans_first q
        obtain ⟨f1, f2⟩ := pk_firsts HS.out.1
        rw [f1] at hp0
        obtain ⟨y, hy⟩ : ∃ y, y = pkY false S 0 := ⟨_, rfl⟩
        rw [← hy] at hp0 hq0 f2
        have t1 : Vb w2 (.slice (behind (some (⟨g1, 0, none⟩ : Addr)) cp 1) (L - 1) (cp - 1)) (tl S) := by
          have q := HP.out
          have r := hcp
          rw [HL.out, ← HS.out.2] at q r
          have := ans_tail HS.out.1 r q
          rw [HS.out.2, ← HL.out] at this
          exact this.keep hq1.below
        have t2 : Vb w2 (.slice (behind (some (⟨g2, 0, none⟩ : Addr)) cq 1) (L - 1) (cq - 1)) (tl S) := by
          have q := hq1
          have r := hcq
          rw [HL.out, ← HS.out.2] at q r
          have := ans_tail HS.out.1 r q
          rw [HS.out.2, ← HL.out] at this
          exact this
        obtain ⟨z1, hz1⟩ : ∃ z, z = behind (some (⟨g1, 0, none⟩ : Addr)) cp 1 := ⟨_, rfl⟩
        obtain ⟨z2, hz2⟩ : ∃ z, z = behind (some (⟨g2, 0, none⟩ : Addr)) cq 1 := ⟨_, rfl⟩
        have j1 : ∀ u, (Instr.slice 22 (.slice (some ⟨g1, 0, none⟩) L cp) (some (.int .i64 1)) none none).run Try.prog u = .ok (.slice z1 (L - 1) (cp - 1)) u := fun u => by rw [hz1]; exact slice_from _ _ _ 1 (by omega) u
        have j2 : ∀ u, (Instr.slice 22 (.slice (some ⟨g2, 0, none⟩) L cq) (some (.int .i64 1)) none none).run Try.prog u = .ok (.slice z2 (L - 1) (cq - 1)) u := fun u => by rw [hz2]; exact slice_from _ _ _ 1 (by omega) u
        rw [← hz1] at t1
        rw [← hz2] at t2
        have kS := fun (d : Nat) (os : Array Obj) => Calls.regrown_of (same_yes (t1.keep (below_regrown w2 d os)) (t2.keep (below_regrown w2 d os)) rfl)
        have kF := fun (d : Nat) (os : Array Obj) => Calls.regrown_of (w := w2) (d := d) (os := os) (fixed_any _)
        have s1 := fun (d : Nat) (os : Array Obj) => cell_regrown hp0 d os
        have s2 := fun (d : Nat) (os : Array Obj) => cell_regrown hq0 d os
        clear hz1 hz2 hy t1 t2 HP hq1 HA1 f1 hp0 hq0
        have x1 := u8_same ((y : Int) + 32) (by omega) (by omega)
        have x2 : (0 : Int) < (L : Int) := by omega
        go_wp2_with fail
        refine wp_region_quiet_below (by kernel_rfl) (by kernel_rfl) ?_
        repeat (first | go_big_quiet_step (first | (go_at_call 7; exact kS _ _) | (go_at_call 8; exact kF _ _)) | quiet_step (first | (go_at_call 7; exact kS _ _) | (go_at_call 8; exact kF _ _)))
        refine wpQuiet_nil ?_
        intro w3 hw'
        obtain ⟨⟨dq, osq⟩, hw''⟩ := hw'
        have h3 := below_regrown w2 dq osq
        rw [← hw''] at h3
        clear hw'' kS kF s1 s2 j1 j2 x1 x2
        have HR : Hid (Vb w3 (.slice (some ⟨g1, 0, none⟩) L cp) (pkL true S) ∧ Vb w3 (.slice (some ⟨g2, 0, none⟩) L cq) (pkL false S) ∧ Vb w3 (.slice a5 k c5) S ∧ Below w.heap.size w w3) := ⟨HQ.out.1.keep h3, HQ.out.2.1.keep h3, HQ.out.2.2.1.keep h3, ch HQ.out.2.2.2 h3⟩
        clear HQ h3
        go_wp2_with fail
        refine (unpack_pk HR.out.1 HS.out.1).mono ?_
        rintro e w4 ⟨u4, rfl, h4⟩
        have HX : Hid (Vb w4 u4 S ∧ Vb w4 (.slice (some ⟨g2, 0, none⟩) L cq) (pkL false S) ∧ Vb w4 (.slice a5 k c5) S ∧ Below w.heap.size w w4) := ⟨h4.vb, HR.out.2.1.keep h4.below, HR.out.2.2.1.keep h4.below, ch HR.out.2.2.2 h4.below⟩
        clear HR h4
        go_wp2_with fail
        refine (unpack_pk HX.out.2.1 HS.out.1).mono ?_
        rintro e w5 ⟨u5, rfl, h5⟩
        have HY : Hid (Vb w5 u4 S ∧ Vb w5 u5 S ∧ Vb w5 (.slice a5 k c5) S ∧ Below w.heap.size w w5) := ⟨HX.out.1.keep h5.below, h5.vb, HX.out.2.2.1.keep h5.below, ch HX.out.2.2.2 h5.below⟩
        clear HX h5
        go_wp2_with fail
        refine (same_yes HY.out.1 HY.out.2.2.1 rfl).mono ?_
        rintro e w6 ⟨rfl, h6⟩
        have HZ : Hid (Vb w6 u5 S ∧ Vb w6 (.slice a5 k c5) S ∧ Below w.heap.size w w6) := ⟨HY.out.2.1.keep h6, HY.out.2.2.1.keep h6, ch HY.out.2.2.2 h6⟩
        clear HY h6
        go_wp2_with fail
        refine (same_yes HZ.out.1 HZ.out.2.1 rfl).mono ?_
        rintro e w7 ⟨rfl, h7⟩
        have HB : Hid (Below w.heap.size w w7) := ch HZ.out.2.2 h7
        have HU : Hid (Vb w7 (.slice a' n' c') t) := HT.out.keep HB.out
        clear HZ h7
        by_cases hf : IsF t
        · have HF : Hid (IsF t ∧ ∀ x ∈ t, x < 256) := ⟨hf, by
            obtain ⟨q1, q2, q3, q4, e, hv, _⟩ := HT.out
            exact (vw_ok hv).2⟩
          clear hf
          go_wp2_with fail
          refine (unpack_t HU.out HF.out.1).mono ?_
          rintro e w8 ⟨u8, rfl, h8⟩
          have HB8 : Hid (Vb w8 u8 (upL t) ∧ Vb w8 (.slice a' n' c') t ∧ Below w.heap.size w w8) := ⟨h8.vb, HU.out.keep h8.below, ch HB.out h8.below⟩
          obtain ⟨ll, hll⟩ : ∃ ll, ll = lf t := ⟨_, rfl⟩
          have HLL : Hid (ll = lf t) := hll
          rw [← hll]
          clear HU HB h8 hll
          go_wp2_with fail
          refine (pack_ok ll HB8.out.1 (up_pk HF.out.2 HF.out.1).1).mono ?_
          rintro e w9 ⟨g9, c9, rfl, hc9, h9⟩
          have HB9 : Hid (Vb w9 (.slice (some ⟨g9, 0, none⟩) (1 + (upL t).length / 2) c9) t ∧ Vb w9 (.slice a' n' c') t ∧ Below w.heap.size w w9) := ⟨by
            have := h9.vb
            rw [HLL.out, (up_pk HF.out.2 HF.out.1).2] at this
            exact this, HB8.out.2.1.keep h9.below, ch HB8.out.2.2 h9.below⟩
          clear HB8 h9 hc9
          obtain ⟨m9, em9⟩ : ∃ m, m = 1 + (upL t).length / 2 := ⟨_, rfl⟩
          rw [← em9] at HB9 ⊢
          clear em9
          go_wp2_with fail
          refine (same_yes HB9.out.1 HB9.out.2.1 rfl).mono ?_
          rintro e w10 ⟨rfl, h10⟩
          have HB10 : Hid (Below w.heap.size w w10) := ch HB9.out.2.2 h10
          clear HB9 h10
          go_wp2_with fail
          go_ret
          exact ⟨rfl, HB10.out⟩
        · have HF : Hid (¬ IsF t) := hf
          clear hf
          go_wp2_with fail
          refine (unpack_f HU.out HF.out).mono ?_
          rintro e w8 ⟨rfl, rfl⟩
          go_wp2_with fail
          go_ret
          exact ⟨rfl, HB.out⟩)
end Go.Proofs.Ytdjbideobdaamaa
