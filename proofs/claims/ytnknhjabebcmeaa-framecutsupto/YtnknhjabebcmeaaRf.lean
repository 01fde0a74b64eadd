/-
  cairnref09.First.
-/
import Derived.Test.YtnknhjabebcmeaaRw
namespace Go.Proofs.Ytnknhjabebcmeaa
open Go.RowKit

/-- the number that the first j bytes behind the mark are -/
def nb (s : List Nat) : Nat → Nat
  | 0 => 0
  | j + 1 => 256 * nb s j + gd s (j + 1)
theorem nb_three (s : List Nat) : nb s 3 = lnF s := by
  show 256 * (256 * (256 * 0 + gd s 1) + gd s 2) + gd s 3 = gd s 1 * 65536 + gd s 2 * 256 + gd s 3
  omega
theorem nb_le {s : List Nat} (hs : ∀ x ∈ s, x < 256) (j : Nat) (hj : j ≤ 3) : nb s j < 16777216 := by
  have h1 := gd_lt hs 1
  have h2 := gd_lt hs 2
  have h3 := gd_lt hs 3
  have q : j = 0 ∨ j = 1 ∨ j = 2 ∨ j = 3 := by omega
  rcases q with rfl | rfl | rfl | rfl
  · show 0 < _; omega
  · show 256 * 0 + gd s 1 < _; omega
  · show 256 * (256 * 0 + gd s 1) + gd s 2 < _; omega
  · show 256 * (256 * (256 * 0 + gd s 1) + gd s 2) + gd s 3 < _; omega
theorem u8_sum (x y : Nat) (hx : x < 256) (hy : y < 256) : ((IntKind.u8.wrap ((x : Int) + (y : Int))) == 255) = decide (x + y = 255) := by
  by_cases h : x + y = 255
  · rw [decide_eq_true h]
    simp [IntKind.wrap, IntKind.bits, IntKind.signed]
    omega
  · rw [decide_eq_false h]
    simp [IntKind.wrap, IntKind.bits, IntKind.signed]
    omega

set_option maxRecDepth 100000 in
set_option maxHeartbeats 1600000 in
theorem rfirst_any (w : World) (a : Option Addr) (b off c : Nat) (s : List Nat) (hv : Vw w a b off s) (hc : s.length ≤ c) (hl : s.length ≤ 140737488351232) :
    Calls Try.prog 18 #[.slice a s.length c] w fun e w' => ∃ v, e = .returned (.tuple #[v, .int .i64 ((fN s : Nat) : Int), .int .i64 ((fE s : Nat) : Int)]) ∧ AnT w w' v (fP s) := by
  have HV : Hid (Vw w a b off s) := hv
  have HS : Hid (∀ x ∈ s, x < 256) := (vw_ok hv).2
  have HC : Hid (∀ i, i < s.length → w.cell? ⟨b, off + i, none⟩ = some (.int .u8 ((gd s i : Nat) : Int)) ∧ gd s i < 256) := fun i hi => ⟨hv.cell i hi, gd_lt (vw_ok hv).2 i⟩
  have HNO : Hid (fE s ≠ 0 → fN s = 0 ∧ fP s = []) := fun h => ⟨by unfold fN; rw [if_neg h], by unfold fP; rw [if_neg h]⟩
  clear hv
  obtain ⟨n, en⟩ : ∃ n, n = s.length := ⟨_, rfl⟩
  have HN : Hid (n = s.length) := en
  rw [← en] at hc hl ⊢
  clear en
  by_cases h0 : n = 0
  · have e1 : fE s = 91 := if_pos (by rw [← HN.out]; exact h0)
    obtain ⟨e2, e3⟩ := HNO.out (by rw [e1]; decide)
    rw [e1, e2, e3]
    subst h0
    clear e1 e2 e3
    go_enter Try.func18, Try.ntmps18
    go_wp2_with fail
    go_ret3
    exact ⟨_, rfl, ant_nil (Below.refl _ _)⟩
  have p0 : 0 < n := by omega
  have p0' : ¬ (n : Int) = 0 := by omega
  have p0'' : ((n : Int) == 0) = false := by simpa using p0'
  obtain rfl := HV.out.at_ (by have := HN.out; omega)
  obtain ⟨c0, b0⟩ := HC.out 0 (by have := HN.out; omega)
  rw [Nat.add_zero] at c0
  by_cases h1 : gd s 0 ≠ 202
  · have e1 : fE s = 90 := by unfold fE; rw [if_neg (by rw [← HN.out]; exact h0), if_pos h1]
    obtain ⟨e2, e3⟩ := HNO.out (by rw [e1]; decide)
    rw [e1, e2, e3]
    have q : (((gd s 0 : Nat) : Int) == 202) = false := by simp; omega
    generalize gd s 0 = x0 at *
    clear e1 e2 e3
    go_enter Try.func18, Try.ntmps18
    go_wp2_with fail
    go_ret3
    exact ⟨_, rfl, ant_nil (Below.refl _ _)⟩
  have h1' : gd s 0 = 202 := Decidable.byContradiction h1
  rw [h1'] at c0
  by_cases h7 : n < 7
  · have e1 : fE s = 91 := by unfold fE; rw [if_neg (by rw [← HN.out]; exact h0), if_neg h1, if_pos (by rw [← HN.out]; exact h7)]
    obtain ⟨e2, e3⟩ := HNO.out (by rw [e1]; decide)
    rw [e1, e2, e3]
    have h7' : (n : Int) < 7 := by omega
    clear e1 e2 e3 h1 h1'
    go_enter Try.func18, Try.ntmps18
    go_wp2_with fail
    go_ret3
    exact ⟨_, rfl, ant_nil (Below.refl _ _)⟩
  have h7' : ¬ (n : Int) < 7 := by omega
  have HE : Hid (fE s = if ¬ okH s then 90 else if s.length < 7 + lnF s then 91 else 0) := by
    show fE s = _
    unfold fE
    rw [if_neg (by rw [← HN.out]; exact h0), if_neg h1, if_neg (by rw [← HN.out]; exact h7)]
  clear h1 h1' b0
  go_enter Try.func18, Try.ntmps18
  go_wp2_with fail
  clear c0
  go_loopg [5, 6] 3 (fun g m i wr => ∃ (k : Nat) (q : Nat), k ≤ 3 ∧ g = 3 - k ∧ i = .int .i64 ((k + 1 : Nat) : Int) ∧ m = .int .i64 ((nb s k : Nat) : Int) ∧ (∀ j, j < k → gd s (j + 4) + gd s (j + 1) = 255) ∧ wr = w.drewN q)
  case atStart => exact ⟨0, 0, by omega, rfl, rfl, rfl, fun j hj => by omega, rfl⟩
  case round =>
    obtain ⟨k, q0, hk, rfl, rfl, rfl, hs, ewr⟩ := hrel
    have HSS : Hid (∀ j, j < k → gd s (j + 4) + gd s (j + 1) = 255) := hs
    have HW : Hid (Below w.heap.size w wr) := by rw [ewr]; exact below_drewN (Below.refl _ _) q0
    have HC2 : Hid (∀ i, i < s.length → wr.cell? ⟨b, off + i, none⟩ = some (.int .u8 ((gd s i : Nat) : Int))) := fun i hi => by
      rw [ewr]
      simpa using (HC.out i hi).1
    have HWR : Hid (wr = w.drewN q0) := ewr
    clear hs ewr
    have hnb := nb_le HS.out k hk
    by_cases hk3 : k < 3
    · have i3 : ((k + 1 : Nat) : Int) ≤ 3 := by omega
      have c1 := HC2.out (k + 1) (by have := HN.out; omega)
      have c2 := HC2.out (k + 4) (by have := HN.out; omega)
      have o1 : (0 : Int) ≤ (k : Int) + 1 := by omega
      have o2 : (k : Int) + 1 < (n : Int) := by omega
      have o3 : ((k : Int) + 1).toNat = k + 1 := by omega
      have o4 : IntKind.i64.wrap ((k : Int) + 1 + 3) = (k : Int) + 1 + 3 := by rw [IntKind.wrap_i64]; omega
      have o5 : (0 : Int) ≤ (k : Int) + 1 + 3 := by omega
      have o6 : (k : Int) + 1 + 3 < (n : Int) := by omega
      have o7 : ((k : Int) + 1 + 3).toNat = k + 4 := by omega
      have HB : Hid (nb s (k + 1) = 256 * nb s k + gd s (k + 1)) := rfl
      have HNX0 : Hid (gd s (k + 1) + gd s (k + 4) = 255 → ∀ j, j < k + 1 → gd s (j + 4) + gd s (j + 1) = 255) := fun h j hj => by
          by_cases e : j = k
          · subst e; omega
          · exact HSS.out j (by omega)
      have HBAD : Hid (gd s (k + 1) + gd s (k + 4) ≠ 255 → fE s = 90) := fun h => by
        rw [HE.out, if_pos]
        rintro ⟨g1, g2, g3, _⟩
        have q : k = 0 ∨ k = 1 ∨ k = 2 := by omega
        rcases q with rfl | rfl | rfl
        · exact h ((Nat.add_comm _ _).trans g1)
        · exact h ((Nat.add_comm _ _).trans g2)
        · exact h ((Nat.add_comm _ _).trans g3)
      have d1 := (HC.out (k + 1) (by have := HN.out; omega)).2
      have d2 := (HC.out (k + 4) (by have := HN.out; omega)).2
      have hu := u8_sum _ _ d1 d2
      generalize gd s (k + 1) = x at *
      generalize gd s (k + 4) = y at *
      generalize nb s k = m at *
      by_cases hxy : x + y = 255
      · have hm : ((x : Int) + (y : Int)) % 256 = 255 := by omega
        clear hu
        have HNX : Hid (∀ j, j < k + 1 → gd s (j + 4) + gd s (j + 1) = 255) := HNX0.out hxy
        clear hxy HSS HNX0 HBAD
        go_wp2_with fail
        go_quiet (fail)
        go_wp2_with fail
        go_roundg (3 - (k + 1))
        case measure => omega
        case rel => exact ⟨k + 1, q0 + nq, by omega, rfl, by go_num, by rw [HB.out]; go_num, HNX.out, by rw [HWR.out]; simp⟩
      · have hm : ¬ ((x : Int) + (y : Int)) % 256 = 255 := by omega
        have hm2 : (((x : Int) + (y : Int)) % 256 != 255) = true := by simp; omega
        clear hu
        have e1 : fE s = 90 := HBAD.out hxy
        obtain ⟨e2, e3⟩ := HNO.out (by rw [e1]; decide)
        have HR : Hid (fE s = 90 ∧ fN s = 0 ∧ fP s = []) := ⟨e1, e2, e3⟩
        clear e1 e2 e3
        go_wp2_with fail
        go_quiet (fail)
        go_wp2_with fail
        go_ret3
        exact ⟨_, by rw [HR.out.1, HR.out.2.1]; rfl, by rw [HR.out.2.2]; exact ant_nil (below_drewN HW.out _)⟩
    · have ek : k = 3 := by omega
      subst ek
      have i3 : ¬ ((3 + 1 : Nat) : Int) ≤ 3 := by omega
      have HT : Hid (nb s 3 = lnF s ∧ (lnF s ≤ 16384 → okH s)) := ⟨nb_three s, fun h => ⟨HSS.out 0 (by omega), HSS.out 1 (by omega), HSS.out 2 (by omega), h⟩⟩
      clear HSS HWR
      obtain ⟨L, hLL⟩ : ∃ L, L = nb s 3 := ⟨_, rfl⟩
      have HL : Hid (L = lnF s) := hLL.trans HT.out.1
      rw [← hLL] at hnb ⊢
      clear hLL
      by_cases hg : 16384 < L
      · have hg' : (16384 : Int) < (L : Int) := by omega
        have e1 : fE s = 90 := by
          rw [HE.out, if_pos]
          rintro ⟨_, _, _, g4⟩
          have := HL.out
          omega
        obtain ⟨e2, e3⟩ := HNO.out (by rw [e1]; decide)
        have HR : Hid (fE s = 90 ∧ fN s = 0 ∧ fP s = []) := ⟨e1, e2, e3⟩
        clear e1 e2 e3
        go_wp2_with fail
        go_ret3
        exact ⟨_, by rw [HR.out.1, HR.out.2.1]; rfl, by rw [HR.out.2.2]; exact ant_nil HW.out⟩
      · have hg' : ¬ (16384 : Int) < (L : Int) := by omega
        have ok : okH s := HT.out.2 (by rw [← HL.out]; omega)
        by_cases h1 : n < 7 + L
        · have i1 : (n : Int) < 7 + (L : Int) := by omega
          have e1 : fE s = 91 := by rw [HE.out, if_neg (fun k => k ok), if_pos (by rw [← HN.out, ← HL.out]; exact h1)]
          obtain ⟨e2, e3⟩ := HNO.out (by rw [e1]; decide)
          have HR : Hid (fE s = 91 ∧ fN s = 0 ∧ fP s = []) := ⟨e1, e2, e3⟩
          clear e1 e2 e3 ok
          go_wp2_with fail
          go_ret3
          exact ⟨_, by rw [HR.out.1, HR.out.2.1]; rfl, by rw [HR.out.2.2]; exact ant_nil HW.out⟩
        · have i1 : ¬ (n : Int) < 7 + (L : Int) := by omega
          have e1 : fE s = 0 := by rw [HE.out, if_neg (fun k => k ok), if_neg (by rw [← HN.out, ← HL.out]; exact h1)]
          have HR : Hid (fE s = 0 ∧ fN s = 7 + L ∧ fP s = (s.drop 7).take L) := ⟨e1, by unfold fN; rw [e1, HL.out]; rfl, by unfold fP; rw [e1, HL.out]; rfl⟩
          clear e1 ok
          obtain ⟨z, hz⟩ : ∃ z, z = behind (some ⟨b, off, none⟩) c 7 := ⟨_, rfl⟩
          have HP : Hid (Vw (wr.alloc (.cells #[] 5)) z b (off + 7) ((s.drop 7).take L) ∧ ((s.drop 7).take L).length = L) := by
            rw [hz]
            exact part_vw (HV.out.below (HW.out.alloc HW.out.size _)) (by have := HN.out; omega) 7 L (by have := HN.out; omega)
          have hzn : z = none → c - 7 = 0 := fun e => by
            rw [hz] at e
            unfold behind at e
            split at e <;> cases e
          have HZN : Hid (z = none → c - 7 = 0) := hzn
          have j1 : ∀ u, (Instr.slice 23 (.slice (some ⟨b, off, none⟩) n c) (some (.int .i64 7)) (some (.int .i64 (7 + (L : Int)))) none).run Try.prog u = .ok (.slice z L (c - 7)) u := fun u => by
            have := slice_part (some ⟨b, off, none⟩) n c 7 (7 + L) (by omega) (by omega) u
            rw [show ((7 + L : Nat) : Int) = 7 + (L : Int) by omega, show 7 + L - 7 = L by omega] at this
            rw [hz]
            exact this
          have HVL : Hid (View (wr.alloc (.cells #[] 5)) z b (off + 7) L (fun i => ((gd ((s.drop 7).take L) i : Nat) : Int))) := by
            have := HP.out.1
            unfold Vw at this
            rw [HP.out.2] at this
            exact this
          have own0 := World.ownsRow_lit (base := wr.heap.size) (e := 5) (size := 1) wr #[] 0 (Nat.le_refl _) (by decide) rfl
          have HO : Hid ((wr.alloc (.cells #[] 5)).ownsRow wr.heap.size 5 1 (.slice (some ⟨wr.heap.size, 0, none⟩) 0 0) 0 []) := own0
          clear hz hzn own0
          go_wp2_with (at_builtin; go_loud (refine wpList_append_bytes (by rfl) (.tmp 47) (.tmp 51) (by rfl) wr.heap.size _ 0 [] (by rfl) HO.out z b (off + 7) L (c - 7) _ (by rfl) HVL.out HZN.out (by omega) (by simp) ?_))
          intro v3 w3 own3 gr3 nn3
          have b3 : Below w.heap.size w w3 := (HW.out.alloc HW.out.size _).trans (grown_below gr3 HO.out HW.out.size (by simp; have := HW.out.size; omega))
          have H3 : Hid (Ans w w3 v3 ((s.drop 7).take L)) := by
            refine ⟨?_, fun x hx => HS.out x (List.mem_of_mem_drop (List.mem_of_mem_take hx)), by rw [HP.out.2]; omega, b3⟩
            rw [HP.out.2, ← vals_bv, HP.out.2]
            have own3' := own_rebase own3 (C := w.heap.size) (fun g hg => by have := (own3.lt g hg).1; have := HW.out.size; omega)
            simpa using own3'
          obtain ⟨a3, c3, e3⟩ := own_slice own3
          subst e3
          clear own3 gr3 nn3 b3 HO HVL
          go_wp2_with fail
          go_ret3
          exact ⟨_, by rw [HR.out.1, HR.out.2.1]; rfl, by rw [HR.out.2.2]; exact H3.out.ant⟩
end Go.Proofs.Ytnknhjabebcmeaa
