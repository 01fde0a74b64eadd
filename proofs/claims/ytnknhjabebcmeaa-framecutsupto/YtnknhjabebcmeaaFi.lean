/-
  frame.First, frame.Wrap.
-/
import Derived.Test.YtnknhjabebcmeaaLn
namespace Go.Proofs.Ytnknhjabebcmeaa
open Go.RowKit

theorem fE_of_l {s : List Nat} (h : lE s ≠ 0) : fE s = lE s := by
  unfold fE lE at *
  split
  · rfl
  next h0 =>
  rw [if_neg h0] at h
  split
  · rfl
  next h1 =>
  rw [if_neg h1] at h
  split
  · rfl
  next h2 =>
  rw [if_neg h2] at h
  split
  · rfl
  next h3 =>
  rw [if_neg h3] at h
  exact absurd rfl h
theorem lE_cases (s : List Nat) : lE s = 0 ∨ lE s = 90 ∨ lE s = 91 := by
  unfold lE
  split
  · omega
  split
  · omega
  split
  · omega
  split <;> omega
theorem lE_zero {s : List Nat} (h : lE s = 0) : okH s ∧ 7 ≤ s.length ∧ fE s = (if s.length < 7 + lnF s then 91 else 0) ∧ lN s = lnF s := by
  have hN : lN s = lnF s := by unfold lN; rw [if_pos h]
  unfold lE at h
  split at h
  · cases h
  split at h
  · cases h
  split at h
  · cases h
  split at h
  · cases h
  next h0 h1 h2 h3 =>
  have hk : okH s := Decidable.byContradiction h3
  refine ⟨hk, by omega, ?_, hN⟩
  unfold fE
  rw [if_neg h0, if_neg h1, if_neg h2, if_neg h3]
theorem slice_part (a : Option Addr) (n c K M : Nat) (h : K ≤ M) (h' : M ≤ c) (w : World) : (Instr.slice 23 (.slice a n c) (some (.int .i64 K)) (some (.int .i64 M)) none).run Try.prog w = .ok (.slice (behind a c K) (M - K) (c - K)) w := by
  rw [run_slice_lh w 23 a n c (by rw [elem24]; exact Try.underlying23) .i64 .i64 K M (by omega) (by omega) (by omega), elem24, size5]
  simp only [Result.andThen, sliced, behind]
  simp
theorem part_vw {w : World} {b off c : Nat} {s : List Nat} (hv : Vw w (some ⟨b, off, none⟩) b off s) (hc : s.length ≤ c) (i j : Nat) (hij : i + j ≤ s.length) : Vw w (behind (some ⟨b, off, none⟩) c i) b (off + i) ((s.drop i).take j) ∧ ((s.drop i).take j).length = j := by
  have hlen : ((s.drop i).take j).length = j := by rw [List.length_take, List.length_drop]; omega
  have eg : ∀ k, k < j → gd ((s.drop i).take j) k = gd s (i + k) := fun k hk => by
    unfold gd
    rw [List.getD_eq_getElem?_getD, List.getD_eq_getElem?_getD, List.getElem?_take, if_pos hk, List.getElem?_drop]
  refine ⟨⟨fun h => ?_, fun k hk => ?_, fun k hk => ?_, by rw [hlen]; have := hv.len; omega⟩, hlen⟩
  · rw [hlen] at h
    unfold behind
    rw [if_neg (by omega)]
    show some ((⟨b, off, none⟩ : Addr).add i) = _
    rw [Go.WideShapes.add_plain]
  · rw [hlen] at hk
    rw [eg k hk, Nat.add_assoc, hv.cell (i + k) (by omega)]
  · rw [hlen] at hk
    rw [eg k hk]
    have := gd_lt (vw_ok hv).2 (i + k)
    omega

set_option maxRecDepth 100000 in
set_option maxHeartbeats 1600000 in
theorem first_any (w : World) (a : Option Addr) (b off c : Nat) (s : List Nat) (hv : Vw w a b off s) (hc : s.length ≤ c) (hl : s.length ≤ 140737488351232) :
    Calls Try.prog 17 #[.slice a s.length c] w fun e w' => ∃ v, e = .returned (.tuple #[v, .int .i64 ((fN s : Nat) : Int), .int .i64 ((fE s : Nat) : Int)]) ∧ AnT w w' v (fP s) := by
  have HV : Hid (Vw w a b off s) := hv
  have HK : Hid (Calls Try.prog 22 #[.slice a s.length c] w fun e w' => e = .returned (.tuple #[.int .i64 ((lN s : Nat) : Int), .int .i64 ((lE s : Nat) : Int)]) ∧ Below w.heap.size w w') := lengthOf_any w a b off c s hv hc hl
  clear hv
  obtain ⟨n, en⟩ : ∃ n, n = s.length := ⟨_, rfl⟩
  have HN : Hid (n = s.length) := en
  rw [← en] at hc hl HK ⊢
  clear en
  by_cases h0 : lE s = 0
  · obtain ⟨hk, h7, hE, hN⟩ := lE_zero h0
    have HH : Hid (okH s ∧ 7 ≤ s.length ∧ fE s = (if s.length < 7 + lnF s then 91 else 0)) := ⟨hk, h7, hE⟩
    rw [h0, hN] at HK
    have hL : lnF s ≤ 16384 := hk.2.2.2
    obtain ⟨L, hLL⟩ : ∃ L, L = lnF s := ⟨_, rfl⟩
    have HL : Hid (L = lnF s) := hLL
    rw [← hLL] at HK hL
    clear h0 hk h7 hE hN hLL
    by_cases h1 : n < 7 + L
    · have i1 : (n : Int) < 7 + (L : Int) := by omega
      have e1 : fE s = 91 := by rw [HH.out.2.2, if_pos (by rw [← HN.out, ← HL.out]; exact h1)]
      have HR : Hid (fE s = 91 ∧ fN s = 0 ∧ fP s = []) := ⟨e1, by unfold fN; rw [e1]; rfl, by unfold fP; rw [e1]; rfl⟩
      clear e1
      go_enter Try.func17, Try.ntmps17
      go_wp2_with fail
      refine HK.out.mono ?_
      rintro e w1 ⟨rfl, hb⟩
      have HB : Hid (Below w.heap.size w w1) := hb
      clear hb
      go_wp2_with fail
      go_ret3
      exact ⟨_, by rw [HR.out.1, HR.out.2.1]; rfl, by rw [HR.out.2.2]; exact ant_nil HB.out⟩
    · have i1 : ¬ (n : Int) < 7 + (L : Int) := by omega
      have e1 : fE s = 0 := by rw [HH.out.2.2, if_neg (by rw [← HN.out, ← HL.out]; exact h1)]
      have HR : Hid (fE s = 0 ∧ fN s = 7 + L ∧ fP s = (s.drop 7).take L) := ⟨e1, by unfold fN; rw [e1, HL.out]; rfl, by unfold fP; rw [e1, HL.out]; rfl⟩
      clear e1
      obtain rfl := HV.out.at_ (by have := HN.out; omega)
      obtain ⟨z, hz⟩ : ∃ z, z = behind (some ⟨b, off, none⟩) c 7 := ⟨_, rfl⟩
      have HP : Hid (∀ w', Below w.heap.size w w' → Vw w' z b (off + 7) ((s.drop 7).take L) ∧ ((s.drop 7).take L).length = L) := fun w' hb => by
        rw [hz]
        exact part_vw (HV.out.below hb) (by have := HN.out; omega) 7 L (by have := HN.out; omega)
      have hzn : z = none → c - 7 = 0 := fun e => by
        rw [hz] at e
        unfold behind at e
        split at e <;> cases e
      have HZN : Hid (z = none → c - 7 = 0) := hzn
      have j1 : ∀ u, (Instr.slice 23 (.slice (some ⟨b, off, none⟩) n c) (some (.int .i64 7)) (some (.int .i64 (7 + (L : Int)))) none).run Try.prog u = .ok (.slice z L (c - 7)) u := fun u => by
        have := slice_part (some ⟨b, off, none⟩) n c 7 (7 + L) (by omega) (by omega) u
        rw [show ((7 + L : Nat) : Int) = 7 + (L : Int) by omega, show 7 + L - 7 = L by omega] at this
        rw [hz]
        exact this
      clear hz hzn
      go_enter Try.func17, Try.ntmps17
      go_wp2_with fail
      refine HK.out.mono ?_
      rintro e w1 ⟨rfl, hb⟩
      have HB : Hid (Below w.heap.size w w1) := hb
      clear hb
      go_wp2_with fail
      have KC := copied_any w1 z b (off + 7) (c - 7) ((s.drop 7).take L) (HP.out w1 HB.out).1 HZN.out (by rw [(HP.out w1 HB.out).2]; omega)
      rw [(HP.out w1 HB.out).2] at KC
      refine KC.mono ?_
      rintro e w2 ⟨u, rfl, h2⟩
      have H2 : Hid (AnT w w2 u ((s.drop 7).take L)) := ⟨h2.own.base HB.out.size, h2.byt, h2.len, HB.out.trans (h2.below.mono HB.out.size)⟩
      obtain ⟨a2, n2, c2, rfl⟩ := h2.formE
      clear h2 KC
      go_wp2_with fail
      go_ret3
      exact ⟨_, by rw [HR.out.1, HR.out.2.1]; rfl, by rw [HR.out.2.2]; exact H2.out⟩
  · have HR : Hid (fE s = lE s ∧ fN s = 0 ∧ fP s = []) := by
      have e := fE_of_l h0
      exact ⟨e, by unfold fN; rw [if_neg (by rw [e]; exact h0)], by unfold fP; rw [if_neg (by rw [e]; exact h0)]⟩
    have d : ((((lE s : Nat) : Int)) == 0) = false := by simp; omega
    have d2 := lE_cases s
    generalize lE s = E at *
    go_enter Try.func17, Try.ntmps17
    go_wp2_with fail
    refine HK.out.mono ?_
    rintro e w1 ⟨rfl, hb⟩
    have HB : Hid (Below w.heap.size w w1) := hb
    clear hb
    go_wp2_with fail
    go_ret3
    exact ⟨_, by rw [HR.out.1, HR.out.2.1]; rfl, by rw [HR.out.2.2]; exact ant_nil HB.out⟩
end Go.Proofs.Ytnknhjabebcmeaa
