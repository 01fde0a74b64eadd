/-
  cairnref06.Unpack.
-/
import Derived.Test.YtdjbideobdaamaaRPk
import Derived.Test.YtdjbideobdaamaaRNb
import Derived.Test.YtdjbideobdaamaaCl
namespace Go.Proofs.Ytdjbideobdaamaa
open Go.RowKit

theorem od_nib (t : List Nat) : nib t 0 % 2 = od t := by
  unfold nib od
  rfl
/-- the rest of the nibbles is the path that may be meant -/
theorem rest_up (t : List Nat) (h : 0 < t.length) : lst (2 * t.length - (2 - od t)) (fun i => nib t (2 - od t + i)) = upL t := by
  have := od_lt t
  unfold upL
  rw [show 2 * t.length - (2 - od t) = plen t by unfold plen; omega]
  refine lst_congr (fun i _ => ?_)
  unfold upY
  rw [Nat.add_comm]
/-- a part of a list that was handed out -/
theorem ans_cut {w w' : World} {g c n : Nat} {Y : Nat → Nat} (K : Nat) (h : Ans w w' (.slice (some ⟨g, 0, none⟩) n c) (lst n Y)) (hc : n ≤ c) (hK : K ≤ n) (h0 : 0 < n) : Vb w' (.slice (behind (some (⟨g, 0, none⟩ : Addr)) c K) (n - K) (c - K)) (lst (n - K) (fun i => Y (K + i))) := by
  obtain ⟨a, g', c', e, hv, _, _⟩ := h.view
  injection e with e1 e2 e3
  subst e3
  have e4 := hv.at_ (by rw [lst_len]; omega)
  rw [← e1] at e4
  injection e4 with e4
  injection e4 with e4
  subst e4
  have hl := h.len
  rw [lst_len] at hl
  refine ⟨behind (some (⟨g, 0, none⟩ : Addr)) c K, g, K, c - K, ?_, ?_, by rw [lst_len]; omega, fun z => ?_, by rw [lst_len]; omega⟩
  · rw [lst_len]
  · refine vw_of ⟨fun q => ?_, fun i hi => ?_, fun i hi => ?_, by omega⟩
    · unfold behind
      rw [if_neg (by omega)]
      simp [Addr.add]
      omega
    · have := hv.cell (K + i) (by rw [lst_len]; omega)
      rw [lst_gd (by omega), Nat.zero_add] at this
      exact this
    · have := hv.bd (K + i) (by rw [lst_len]; omega)
      rw [lst_gd (by omega)] at this
      exact this
  · unfold behind at z
    split at z <;> cases z
theorem lf_nib {t : List Nat} (h : ∀ x ∈ t, x < 256) : (decide (2 ≤ nib t 0)) = lf t := by
  have := gd_lt h 0
  unfold nib lf
  rw [if_pos (by decide), decide_eq_decide, show 0 / 2 = 0 from rfl]
  omega

set_option maxRecDepth 100000 in
set_option maxHeartbeats 1600000 in
theorem runpack_0 (w : World) (a : Option Addr) (b off c : Nat) (t : List Nat) (hv : Vw w a b off t) (hc : t.length ≤ c) (hnil : a = none → c = 0) (h0 : 0 < t.length) (h33 : t.length ≤ 33) (ho : od t = 0) :
    Calls Try.prog 15 #[.slice a t.length c] w fun e w' => ∃ u, e = .returned (.tuple #[u, .bool (upI t), .int .i64 ((upE t : Nat) : Int)]) ∧ Vb w' u (upR t) ∧ Below w.heap.size w w' := by
  have HV : Hid (Vb w (.slice a t.length c) t) := ⟨a, b, off, c, rfl, hv, hc, hnil, by omega⟩
  have HB : Hid (∀ x ∈ t, x < 256) := (vw_ok hv).2
  have HO : Hid (od t = 0) := ho
  have HR : Hid (lst (2 * t.length - 2) (fun i => nib t (2 + i)) = upL t) := by
    have := rest_up t h0
    rw [ho] at this
    exact this
  clear hv hc hnil
  obtain ⟨n, en⟩ : ∃ n, n = t.length := ⟨_, rfl⟩
  have HN : Hid (n = t.length) := en
  rw [← en] at HV HR h0 h33 ⊢
  clear en ho
  have i0 : ((n : Int) == 0) = false := by simp; omega
  have i1 : ¬ (33 : Int) < (n : Int) := by omega
  go_enter Try.func15, Try.ntmps15
  go_wp2_with fail
  refine (rnib_any HV.out (by have := HN.out; omega)).mono ?_
  rintro e w1 ⟨u1, rfl, h1⟩
  rw [← HN.out] at h1
  have e1 : ∃ g c1, u1 = .slice (some ⟨g, 0, none⟩) (2 * n) c1 ∧ 2 * n ≤ c1 := by
    obtain ⟨a1, g, c1, e, q, hc1, _⟩ := h1.view
    rw [lst_len] at e hc1
    have := q.at_ (by rw [lst_len]; omega)
    subst this
    exact ⟨g, c1, e, hc1⟩
  obtain ⟨g, c1, rfl, hc1⟩ := e1
  have d0 : w1.cell? ⟨g, 0, none⟩ = some (.int .u8 ((nib t 0 : Nat) : Int)) := by
    have := h1.own.cells (g := g) rfl 0 _ (bv_at (by rw [lst_len]; omega))
    rw [lst_gd (by omega), add_flat] at this
    exact this
  have HA : Hid (Vb w1 (.slice (behind (some (⟨g, 0, none⟩ : Addr)) c1 2) (2 * n - 2) (c1 - 2)) (upL t) ∧ Vb w1 (.slice a n c) t ∧ Below w.heap.size w w1) := by
    refine ⟨?_, HV.out.keep h1.below, h1.below⟩
    have := ans_cut 2 h1 hc1 (by omega) (by omega)
    rw [HR.out] at this
    exact this
  have y15 := nib_le HB.out 0
  have HY : Hid (nib t 0 % 2 = 0 ∧ decide (2 ≤ nib t 0) = lf t) := ⟨by rw [od_nib, HO.out], lf_nib HB.out⟩
  obtain ⟨y, hy⟩ : ∃ y, y = nib t 0 := ⟨_, rfl⟩
  rw [← hy] at d0 y15 HY
  have y2 : ((y : Int) % 2 == 0) = true := by
    have := HY.out.1
    simp
    omega
  have y3 : IntKind.u8.wrap ((y : Int) % 2) = (y : Int) % 2 := u8_same _ (by omega) (by omega)
  have y4 : (y : Int).tmod 2 = (y : Int) % 2 := Int.tmod_eq_emod_of_nonneg (by omega)
  obtain ⟨z, hz⟩ : ∃ z, z = behind (some (⟨g, 0, none⟩ : Addr)) c1 2 := ⟨_, rfl⟩
  have j1 : ∀ u, (Instr.slice 22 (.slice (some ⟨g, 0, none⟩) (2 * n) c1) (some (.int .i64 2)) none none).run Try.prog u = .ok (.slice z (2 * n - 2) (c1 - 2)) u := fun u => by rw [hz]; exact slice_from _ _ _ 2 (by omega) u
  have j2 : ∀ u, (Instr.slice 22 (.slice (some ⟨g, 0, none⟩) (2 * n) c1) (some (.int .i64 1)) none none).run Try.prog u = .ok (.slice (behind (some (⟨g, 0, none⟩ : Addr)) c1 1) (2 * n - 1) (c1 - 1)) u := fun u => slice_from _ _ _ 1 (by omega) u
  rw [← hz] at HA
  clear h1 hy hz HV
  obtain ⟨ll, hll⟩ : ∃ ll, ll = decide ((2 : Int) ≤ (y : Int)) := ⟨_, rfl⟩
  have HLL : Hid (ll = lf t) := by
    show ll = lf t
    rw [hll, ← HY.out.2, decide_eq_decide]
    omega
  have q1 : (0 : Int) < 2 * (n : Int) := by omega
  have q2 : 0 < 2 * n := by omega
  have hll' := hll.symm
  clear hll
  go_wp2_with fail
  refine (rpack_vb ll HA.out.1).mono ?_
  rintro e w2 ⟨u2, rfl, h2⟩
  have HB2 : Hid (Vb w2 (.slice z (2 * n - 2) (c1 - 2)) (upL t) ∧ Vb w2 (.slice a n c) t ∧ Below w.heap.size w w2 ∧ Vb w2 u2 (pkR ll (upL t))) := ⟨HA.out.1.keep h2.below, HA.out.2.1.keep h2.below, ch HA.out.2.2 h2.below, h2.vb⟩
  clear h2 HA d0 y2 y3 y4 hll' q1 q2
  by_cases hf : IsF t
  · have HF : Hid (IsF t ∧ pkE (upL t) = 0 ∧ pkR ll (upL t) = t) := by
      obtain ⟨k1, k2⟩ := up_pk HB.out hf
      refine ⟨hf, if_pos k1, ?_⟩
      rw [HLL.out, show pkR (lf t) (upL t) = pkL (lf t) (upL t) from if_pos k1]
      exact k2
    clear hf
    rw [HF.out.2.1]
    go_wp2_with fail
    refine (same_yes HB2.out.2.2.2 HB2.out.2.1 HF.out.2.2).mono ?_
    rintro e w3 ⟨rfl, h3⟩
    have HB3 : Hid (Vb w3 (.slice z (2 * n - 2) (c1 - 2)) (upL t) ∧ Below w.heap.size w w3) := ⟨HB2.out.1.keep h3, ch HB2.out.2.2.1 h3⟩
    clear HB2 h3
    go_wp2_with fail
    go_ret3
    refine ⟨_, by rw [show upI t = lf t from if_pos HF.out.1, ← HLL.out, show upE t = 0 from if_pos HF.out.1]; rfl, ?_⟩
    rw [show upR t = upL t from if_pos HF.out.1]
    exact HB3.out
  · have HF : Hid (¬ IsF t) := hf
    clear hf
    by_cases hp : IsP (upL t)
    · have HP : Hid (pkE (upL t) = 0 ∧ pkR ll (upL t) ≠ t) := ⟨if_pos hp, fun e => HF.out (form_of (leaf := ll) hp ((if_pos hp : pkR ll (upL t) = pkL ll (upL t)).symm.trans e))⟩
      clear hp
      rw [HP.out.1]
      go_wp2_with fail
      have K := same_vb HB2.out.2.2.2 HB2.out.2.1
      rw [decide_eq_false HP.out.2] at K
      refine K.mono ?_
      rintro e w3 ⟨rfl, h3⟩
      have HB3 : Hid (Below w.heap.size w w3) := ch HB2.out.2.2.1 h3
      clear HB2 h3 K
      go_wp2_with fail
      go_ret3
      refine ⟨_, by rw [show upI t = false from if_neg HF.out, show upE t = 60 from if_neg HF.out]; rfl, ?_⟩
      rw [show upR t = [] from if_neg HF.out]
      exact ⟨(ans_nil HB3.out).vb, HB3.out⟩
    · have HP : Hid (pkE (upL t) = 60) := if_neg hp
      clear hp
      rw [HP.out]
      go_wp2_with fail
      go_ret3
      refine ⟨_, by rw [show upI t = false from if_neg HF.out, show upE t = 60 from if_neg HF.out]; rfl, ?_⟩
      rw [show upR t = [] from if_neg HF.out]
      exact ⟨(ans_nil HB2.out.2.2.1).vb, HB2.out.2.2.1⟩

set_option maxRecDepth 100000 in
set_option maxHeartbeats 1600000 in
theorem runpack_1 (w : World) (a : Option Addr) (b off c : Nat) (t : List Nat) (hv : Vw w a b off t) (hc : t.length ≤ c) (hnil : a = none → c = 0) (h0 : 0 < t.length) (h33 : t.length ≤ 33) (ho : od t = 1) :
    Calls Try.prog 15 #[.slice a t.length c] w fun e w' => ∃ u, e = .returned (.tuple #[u, .bool (upI t), .int .i64 ((upE t : Nat) : Int)]) ∧ Vb w' u (upR t) ∧ Below w.heap.size w w' := by
  have HV : Hid (Vb w (.slice a t.length c) t) := ⟨a, b, off, c, rfl, hv, hc, hnil, by omega⟩
  have HB : Hid (∀ x ∈ t, x < 256) := (vw_ok hv).2
  have HO : Hid (od t = 1) := ho
  have HR : Hid (lst (2 * t.length - 1) (fun i => nib t (1 + i)) = upL t) := by
    have := rest_up t h0
    rw [ho] at this
    exact this
  clear hv hc hnil
  obtain ⟨n, en⟩ : ∃ n, n = t.length := ⟨_, rfl⟩
  have HN : Hid (n = t.length) := en
  rw [← en] at HV HR h0 h33 ⊢
  clear en ho
  have i0 : ((n : Int) == 0) = false := by simp; omega
  have i1 : ¬ (33 : Int) < (n : Int) := by omega
  go_enter Try.func15, Try.ntmps15
  go_wp2_with fail
  refine (rnib_any HV.out (by have := HN.out; omega)).mono ?_
  rintro e w1 ⟨u1, rfl, h1⟩
  rw [← HN.out] at h1
  have e1 : ∃ g c1, u1 = .slice (some ⟨g, 0, none⟩) (2 * n) c1 ∧ 2 * n ≤ c1 := by
    obtain ⟨a1, g, c1, e, q, hc1, _⟩ := h1.view
    rw [lst_len] at e hc1
    have := q.at_ (by rw [lst_len]; omega)
    subst this
    exact ⟨g, c1, e, hc1⟩
  obtain ⟨g, c1, rfl, hc1⟩ := e1
  have d0 : w1.cell? ⟨g, 0, none⟩ = some (.int .u8 ((nib t 0 : Nat) : Int)) := by
    have := h1.own.cells (g := g) rfl 0 _ (bv_at (by rw [lst_len]; omega))
    rw [lst_gd (by omega), add_flat] at this
    exact this
  have HA : Hid (Vb w1 (.slice (behind (some (⟨g, 0, none⟩ : Addr)) c1 1) (2 * n - 1) (c1 - 1)) (upL t) ∧ Vb w1 (.slice a n c) t ∧ Below w.heap.size w w1) := by
    refine ⟨?_, HV.out.keep h1.below, h1.below⟩
    have := ans_cut 1 h1 hc1 (by omega) (by omega)
    rw [HR.out] at this
    exact this
  have y15 := nib_le HB.out 0
  have HY : Hid (nib t 0 % 2 = 1 ∧ decide (2 ≤ nib t 0) = lf t) := ⟨by rw [od_nib, HO.out], lf_nib HB.out⟩
  obtain ⟨y, hy⟩ : ∃ y, y = nib t 0 := ⟨_, rfl⟩
  rw [← hy] at d0 y15 HY
  have y2 : ((y : Int) % 2 == 0) = false := by
    have := HY.out.1
    simp
    omega
  have y3 : IntKind.u8.wrap ((y : Int) % 2) = (y : Int) % 2 := u8_same _ (by omega) (by omega)
  have y4 : (y : Int).tmod 2 = (y : Int) % 2 := Int.tmod_eq_emod_of_nonneg (by omega)
  obtain ⟨z, hz⟩ : ∃ z, z = behind (some (⟨g, 0, none⟩ : Addr)) c1 1 := ⟨_, rfl⟩
  have j1 : ∀ u, (Instr.slice 22 (.slice (some ⟨g, 0, none⟩) (2 * n) c1) (some (.int .i64 1)) none none).run Try.prog u = .ok (.slice z (2 * n - 1) (c1 - 1)) u := fun u => by rw [hz]; exact slice_from _ _ _ 1 (by omega) u
  skip
  rw [← hz] at HA
  clear h1 hy hz HV
  obtain ⟨ll, hll⟩ : ∃ ll, ll = decide ((2 : Int) ≤ (y : Int)) := ⟨_, rfl⟩
  have HLL : Hid (ll = lf t) := by
    show ll = lf t
    rw [hll, ← HY.out.2, decide_eq_decide]
    omega
  have q1 : (0 : Int) < 2 * (n : Int) := by omega
  have q2 : 0 < 2 * n := by omega
  have hll' := hll.symm
  clear hll
  go_wp2_with fail
  refine (rpack_vb ll HA.out.1).mono ?_
  rintro e w2 ⟨u2, rfl, h2⟩
  have HB2 : Hid (Vb w2 (.slice z (2 * n - 1) (c1 - 1)) (upL t) ∧ Vb w2 (.slice a n c) t ∧ Below w.heap.size w w2 ∧ Vb w2 u2 (pkR ll (upL t))) := ⟨HA.out.1.keep h2.below, HA.out.2.1.keep h2.below, ch HA.out.2.2 h2.below, h2.vb⟩
  clear h2 HA d0 y2 y3 y4 hll' q1 q2
  by_cases hf : IsF t
  · have HF : Hid (IsF t ∧ pkE (upL t) = 0 ∧ pkR ll (upL t) = t) := by
      obtain ⟨k1, k2⟩ := up_pk HB.out hf
      refine ⟨hf, if_pos k1, ?_⟩
      rw [HLL.out, show pkR (lf t) (upL t) = pkL (lf t) (upL t) from if_pos k1]
      exact k2
    clear hf
    rw [HF.out.2.1]
    go_wp2_with fail
    refine (same_yes HB2.out.2.2.2 HB2.out.2.1 HF.out.2.2).mono ?_
    rintro e w3 ⟨rfl, h3⟩
    have HB3 : Hid (Vb w3 (.slice z (2 * n - 1) (c1 - 1)) (upL t) ∧ Below w.heap.size w w3) := ⟨HB2.out.1.keep h3, ch HB2.out.2.2.1 h3⟩
    clear HB2 h3
    go_wp2_with fail
    go_ret3
    refine ⟨_, by rw [show upI t = lf t from if_pos HF.out.1, ← HLL.out, show upE t = 0 from if_pos HF.out.1]; rfl, ?_⟩
    rw [show upR t = upL t from if_pos HF.out.1]
    exact HB3.out
  · have HF : Hid (¬ IsF t) := hf
    clear hf
    by_cases hp : IsP (upL t)
    · have HP : Hid (pkE (upL t) = 0 ∧ pkR ll (upL t) ≠ t) := ⟨if_pos hp, fun e => HF.out (form_of (leaf := ll) hp ((if_pos hp : pkR ll (upL t) = pkL ll (upL t)).symm.trans e))⟩
      clear hp
      rw [HP.out.1]
      go_wp2_with fail
      have K := same_vb HB2.out.2.2.2 HB2.out.2.1
      rw [decide_eq_false HP.out.2] at K
      refine K.mono ?_
      rintro e w3 ⟨rfl, h3⟩
      have HB3 : Hid (Below w.heap.size w w3) := ch HB2.out.2.2.1 h3
      clear HB2 h3 K
      go_wp2_with fail
      go_ret3
      refine ⟨_, by rw [show upI t = false from if_neg HF.out, show upE t = 60 from if_neg HF.out]; rfl, ?_⟩
      rw [show upR t = [] from if_neg HF.out]
      exact ⟨(ans_nil HB3.out).vb, HB3.out⟩
    · have HP : Hid (pkE (upL t) = 60) := if_neg hp
      clear hp
      rw [HP.out]
      go_wp2_with fail
      go_ret3
      refine ⟨_, by rw [show upI t = false from if_neg HF.out, show upE t = 60 from if_neg HF.out]; rfl, ?_⟩
      rw [show upR t = [] from if_neg HF.out]
      exact ⟨(ans_nil HB2.out.2.2.1).vb, HB2.out.2.2.1⟩

set_option maxRecDepth 100000 in
set_option maxHeartbeats 400000 in
theorem runpack_long (w : World) (a : Option Addr) (c n : Nat) (hn : 33 < n) (hl : n ≤ 281474976710656) :
    Calls Try.prog 15 #[.slice a n c] w fun e w' => e = .returned (.tuple #[.slice none 0 0, .bool false, .int .i64 60]) ∧ w' = w := by
  have i0 : ((n : Int) == 0) = false := by simp; omega
  have i1 : (33 : Int) < (n : Int) := by omega
  go_enter Try.func15, Try.ntmps15
  go_wp2_with fail
  go_ret3
  exact ⟨rfl, rfl⟩
set_option maxRecDepth 100000 in
set_option maxHeartbeats 400000 in
theorem runpack_none (w : World) (a : Option Addr) (c : Nat) :
    Calls Try.prog 15 #[.slice a 0 c] w fun e w' => e = .returned (.tuple #[.slice none 0 0, .bool false, .int .i64 60]) ∧ w' = w := by
  go_enter Try.func15, Try.ntmps15
  go_wp2_with fail
  go_ret3
  exact ⟨rfl, rfl⟩
/-- P6.3, by definition -/
theorem runpack_vb {w : World} {v : Value} {t : List Nat} (h : Vb w v t) :
    Calls Try.prog 15 #[v] w fun e w' => ∃ u, e = .returned (.tuple #[u, .bool (upI t), .int .i64 ((upE t : Nat) : Int)]) ∧ Vb w' u (upR t) ∧ Below w.heap.size w w' := by
  obtain ⟨a, b, off, c, rfl, hv, hc, hnil, _⟩ := h
  have fin : ∀ e w', ¬ IsF t → e = Ending.returned (.tuple #[.slice none 0 0, .bool false, .int .i64 60]) ∧ w' = w → ∃ u, e = .returned (.tuple #[u, .bool (upI t), .int .i64 ((upE t : Nat) : Int)]) ∧ Vb w' u (upR t) ∧ Below w.heap.size w w' := by
    rintro e w' hf ⟨rfl, rfl⟩
    rw [show upI t = false from if_neg hf, show upE t = 60 from if_neg hf, show upR t = [] from if_neg hf]
    exact ⟨_, rfl, (ans_nil (Below.refl _ _)).vb, Below.refl _ _⟩
  by_cases h0 : 0 < t.length
  · by_cases h33 : t.length ≤ 33
    · have := od_lt t
      by_cases ho : od t = 0
      · exact runpack_0 w a b off c t hv hc hnil h0 h33 ho
      · exact runpack_1 w a b off c t hv hc hnil h0 h33 (by omega)
    · exact (runpack_long w a c t.length (by omega) hv.len).mono (fun e w' => fin e w' (fun k => by have := k.2.2.2; unfold plen at this; omega))
  · have e : t.length = 0 := by omega
    rw [e]
    exact (runpack_none w a c).mono (fun e w' => fin e w' (fun k => h0 k.1))
end Go.Proofs.Ytdjbideobdaamaa
