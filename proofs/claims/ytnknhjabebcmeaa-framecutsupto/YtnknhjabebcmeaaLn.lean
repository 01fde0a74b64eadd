/-
  frame.lengthOf.
-/
import Derived.Test.YtnknhjabebcmeaaHd
namespace Go.Proofs.Ytnknhjabebcmeaa
open Go.RowKit

theorem bits_or_i64_nat (a b : Nat) (ha : a < 9223372036854775808) (hb : b < 9223372036854775808) : bits .or .i64 (a : Int) (b : Int) = ((a ||| b : Nat) : Int) := by
  have hx : a ||| b < 2 ^ 63 := Nat.or_lt_two_pow (by omega) (by omega)
  have h1 : (BitVec.ofInt 64 (a : Int)).toNat = a := by
    rw [BitVec.ofInt_natCast, BitVec.toNat_ofNat]; exact Nat.mod_eq_of_lt (by omega)
  have h2 : (BitVec.ofInt 64 (b : Int)).toNat = b := by
    rw [BitVec.ofInt_natCast, BitVec.toNat_ofNat]; exact Nat.mod_eq_of_lt (by omega)
  show IntKind.i64.wrap ((BitVec.ofInt 64 (a : Int) ||| BitVec.ofInt 64 (b : Int)).toNat : Int) = _
  rw [BitVec.toNat_or, h1, h2, IntKind.wrap_i64]
  omega
theorem or_three (x y z : Nat) (hx : x < 256) (hy : y < 256) (hz : z < 256) : bits .or .i64 (bits .or .i64 ((x : Int) * 65536) ((y : Int) * 256)) (z : Int) = ((x * 65536 + y * 256 + z : Nat) : Int) := by
  have e1 : (x : Int) * 65536 = ((x * 65536 : Nat) : Int) := by omega
  have e2 : (y : Int) * 256 = ((y * 256 : Nat) : Int) := by omega
  have o1 : x * 65536 ||| y * 256 = x * 65536 + y * 256 := by
    have := Nat.two_pow_add_eq_or_of_lt (i := 16) (b := y * 256) (by omega) x
    rw [show 2 ^ 16 * x = x * 65536 by omega] at this
    exact this.symm
  have o2 : (x * 65536 + y * 256) ||| z = x * 65536 + y * 256 + z := by
    have := Nat.two_pow_add_eq_or_of_lt (i := 8) (b := z) (by omega) (x * 256 + y)
    rw [show 2 ^ 8 * (x * 256 + y) = x * 65536 + y * 256 by omega] at this
    exact this.symm
  rw [e1, e2, bits_or_i64_nat _ _ (by omega) (by omega), o1, bits_or_i64_nat _ _ (by omega) (by omega), o2]

/-- why there is no head (0: there is one) -/
def lE (b : List Nat) : Nat := if b.length = 0 then 91 else if gd b 0 ≠ 202 then 90 else if b.length < 7 then 91 else if ¬ okH b then 90 else 0
def lN (b : List Nat) : Nat := if lE b = 0 then lnF b else 0

set_option maxRecDepth 100000 in
set_option maxHeartbeats 1600000 in
theorem lengthOf_any (w : World) (a : Option Addr) (b off c : Nat) (s : List Nat) (hv : Vw w a b off s) (hc : s.length ≤ c) (hl : s.length ≤ 140737488351232) :
    Calls Try.prog 22 #[.slice a s.length c] w fun e w' => e = .returned (.tuple #[.int .i64 ((lN s : Nat) : Int), .int .i64 ((lE s : Nat) : Int)]) ∧ Below w.heap.size w w' := by
  have HV : Hid (Vw w a b off s) := hv
  have HC : Hid (∀ i, i < s.length → w.cell? ⟨b, off + i, none⟩ = some (.int .u8 ((gd s i : Nat) : Int)) ∧ gd s i < 256) := fun i hi => ⟨hv.cell i hi, gd_lt (vw_ok hv).2 i⟩
  clear hv
  obtain ⟨n, en⟩ : ∃ n, n = s.length := ⟨_, rfl⟩
  have HN : Hid (n = s.length) := en
  rw [← en] at hc hl ⊢
  clear en
  by_cases h0 : n = 0
  · have e1 : lE s = 91 := if_pos (by rw [← HN.out]; exact h0)
    have e2 : lN s = 0 := by unfold lN; rw [e1]; rfl
    rw [e1, e2]
    subst h0
    go_enter Try.func22, Try.ntmps22
    go_wp2_with fail
    go_ret2
    exact ⟨rfl, Below.refl _ _⟩
  have p0 : 0 < n := by omega
  have p0' : ¬ (n : Int) = 0 := by omega
  have p0'' : ((n : Int) == 0) = false := by simpa using p0'
  obtain rfl := HV.out.at_ (by have := HN.out; omega)
  obtain ⟨c0, b0⟩ := HC.out 0 (by have := HN.out; omega)
  rw [Nat.add_zero] at c0
  by_cases h1 : gd s 0 ≠ 202
  · have e1 : lE s = 90 := by unfold lE; rw [if_neg (by rw [← HN.out]; exact h0), if_pos h1]
    have e2 : lN s = 0 := by unfold lN; rw [e1]; rfl
    rw [e1, e2]
    have q : (((gd s 0 : Nat) : Int) == 202) = false := by simp; omega
    generalize gd s 0 = x0 at *
    clear e1 e2
    go_enter Try.func22, Try.ntmps22
    go_wp2_with fail
    go_ret2
    exact ⟨rfl, Below.refl _ _⟩
  have h1' : gd s 0 = 202 := Decidable.byContradiction h1
  rw [h1'] at c0
  by_cases h7 : n < 7
  · have e1 : lE s = 91 := by unfold lE; rw [if_neg (by rw [← HN.out]; exact h0), if_neg h1, if_pos (by rw [← HN.out]; exact h7)]
    have e2 : lN s = 0 := by unfold lN; rw [e1]; rfl
    rw [e1, e2]
    have h7' : (n : Int) < 7 := by omega
    clear e1 e2 h1 h1'
    go_enter Try.func22, Try.ntmps22
    go_wp2_with fail
    go_ret2
    exact ⟨rfl, Below.refl _ _⟩
  have h7' : ¬ (n : Int) < 7 := by omega
  have i1 : (1 : Int) < (n : Int) := by omega
  have i2 : (2 : Int) < (n : Int) := by omega
  have i3 : (3 : Int) < (n : Int) := by omega
  obtain ⟨c1, b1⟩ := HC.out 1 (by have := HN.out; omega)
  obtain ⟨c2, b2⟩ := HC.out 2 (by have := HN.out; omega)
  obtain ⟨c3, b3⟩ := HC.out 3 (by have := HN.out; omega)
  have o3 := or_three (gd s 1) (gd s 2) (gd s 3) b1 b2 b3
  have hL : lnF s < 16777216 := by unfold lnF; omega
  have hLE : (lnF s ≤ 16384 → (s.take 7 = hd7 (lnF s) ↔ okH s)) := fun hle => by
    have hlen : (s.take 7).length = 7 := by rw [List.length_take]; have := HN.out; omega
    have eg : ∀ i, i < 7 → gd (s.take 7) i = gd s i := fun i hi => by
      unfold gd
      rw [List.getD_eq_getElem?_getD, List.getD_eq_getElem?_getD, List.getElem?_take, if_pos hi]
    have ln : lnF s = gd s 1 * 65536 + gd s 2 * 256 + gd s 3 := rfl
    constructor
    · intro h
      have g : ∀ i, i < 7 → gd s i = gd (hd7 (lnF s)) i := fun i hi => by rw [← eg i hi, h]
      have g4 : gd s 4 = 255 - lnF s / 65536 := g 4 (by omega)
      have g5 : gd s 5 = 255 - lnF s / 256 % 256 := g 5 (by omega)
      have g6 : gd s 6 = 255 - lnF s % 256 := g 6 (by omega)
      exact ⟨by omega, by omega, by omega, hle⟩
    · rintro ⟨g4, g5, g6, -⟩
      refine ext_gd (by rw [hlen, hd7_len]) (fun i hi => ?_)
      rw [hlen] at hi
      rw [eg i hi]
      have q : i = 0 ∨ i = 1 ∨ i = 2 ∨ i = 3 ∨ i = 4 ∨ i = 5 ∨ i = 6 := by omega
      rcases q with rfl | rfl | rfl | rfl | rfl | rfl | rfl
      · exact h1'
      · show gd s 1 = lnF s / 65536; omega
      · show gd s 2 = lnF s / 256 % 256; omega
      · show gd s 3 = lnF s % 256; omega
      · show gd s 4 = 255 - lnF s / 65536; omega
      · show gd s 5 = 255 - lnF s / 256 % 256; omega
      · show gd s 6 = 255 - lnF s % 256; omega
  have HE : Hid (lE s = if ¬ okH s then 90 else 0) := by
    show lE s = _
    unfold lE
    rw [if_neg (by rw [← HN.out]; exact h0), if_neg h1, if_neg (by rw [← HN.out]; exact h7)]
  have HLE : Hid (lnF s ≤ 16384 → (s.take 7 = hd7 (lnF s) ↔ okH s)) := hLE
  have HT : Hid (∀ (w' : World), Below w.heap.size w w' → Vw w' (some ⟨b, off, none⟩) b off (s.take 7) ∧ (s.take 7).length = 7) := fun w' hb => by
    have hlen : (s.take 7).length = 7 := by rw [List.length_take]; have := HN.out; omega
    have hw : View w' (some ⟨b, off, none⟩) b off s.length _ := HV.out.below (hb.mono (by
      exact Nat.le_refl _))
    refine ⟨⟨fun _ => rfl, fun i hi => ?_, fun i hi => ?_, by omega⟩, hlen⟩
    · rw [hw.cell i (by have := HN.out; omega)]
      unfold gd
      rw [List.getD_eq_getElem?_getD, List.getD_eq_getElem?_getD, List.getElem?_take, if_pos (by omega)]
    · have := gd_lt (fun x hx => (vw_ok HV.out).2 x (List.mem_of_mem_take hx)) i (s := s.take 7)
      omega
  have eL : gd s 1 * 65536 + gd s 2 * 256 + gd s 3 = lnF s := rfl
  rw [eL] at o3
  clear h1 h1' hLE eL
  generalize gd s 1 = x1 at *
  generalize gd s 2 = x2 at *
  generalize gd s 3 = x3 at *
  obtain ⟨L, hLL⟩ : ∃ L, L = lnF s := ⟨_, rfl⟩
  have HLL : Hid (L = lnF s) := hLL
  rw [← hLL] at o3 hL
  clear hLL
  go_enter Try.func22, Try.ntmps22
  go_wp2_with fail
  go_quiet (fail)
  obtain ⟨wq, hwq⟩ : ∃ wq, wq = w.drewN nq := ⟨_, rfl⟩
  have HQ : Hid (Below w.heap.size w wq) := by rw [hwq]; exact below_drewN (Below.refl _ _) nq
  rw [← hwq]
  clear hwq c0 c1 c2 c3
  go_wp2_with fail
  refine (headOf_any wq L hL).mono ?_
  rintro e w2 ⟨rfl, hb2⟩
  obtain ⟨z1, z2, z3, z4, z5, z6, hz⟩ : ∃ z1 z2 z3 z4 z5 z6 : Nat, hd7 L = [202, z1, z2, z3, z4, z5, z6] := ⟨_, _, _, _, _, _, rfl⟩
  have HZ : Hid (hd7 L = [202, z1, z2, z3, z4, z5, z6]) := hz
  have ez : (bv (hd7 L)).toArray = #[.int .u8 202, .int .u8 z1, .int .u8 z2, .int .u8 z3, .int .u8 z4, .int .u8 z5, .int .u8 z6] := by rw [hz]; rfl
  rw [ez]
  have HB2 : Hid (Below w.heap.size w w2) := HQ.out.trans (hb2.mono HQ.out.size)
  clear hb2 hz ez HQ
  have hgr : (16384 : Int) < (L : Int) ∨ ¬ (16384 : Int) < (L : Int) := by omega
  go_wp2_with fail
  obtain ⟨w3, hw3⟩ : ∃ w3, w3 = w2.alloc (.cells #[.int .u8 202, .int .u8 z1, .int .u8 z2, .int .u8 z3, .int .u8 z4, .int .u8 z5, .int .u8 z6] 47) := ⟨_, rfl⟩
  have HH : Hid (Vw w3 (some ⟨w2.heap.size, 0, none⟩) w2.heap.size 0 (hd7 L) ∧ Below w.heap.size w w3) := by
    rw [hw3]
    refine ⟨⟨fun _ => rfl, fun i hi => ?_, fun i hi => ?_, by rw [hd7_len]; omega⟩, HB2.out.alloc HB2.out.size _⟩
    · rw [Nat.zero_add, cell_of_row _ _ _ _ 47 (0, 0) (heap_alloc_new w2 _)]
      rw [hd7_len] at hi
      rw [HZ.out]
      have q : i = 0 ∨ i = 1 ∨ i = 2 ∨ i = 3 ∨ i = 4 ∨ i = 5 ∨ i = 6 := by omega
      rcases q with rfl | rfl | rfl | rfl | rfl | rfl | rfl <;> rfl
    · rw [hd7_len] at hi
      have e : ∀ x ∈ hd7 L, x < 256 := fun x hx => by
        simp only [hd7, List.mem_cons, List.not_mem_nil, or_false] at hx
        omega
      have := gd_lt e i
      omega
  rw [← hw3]
  have f3 : w3.cell? ⟨w2.heap.size, 0, none⟩ = some (.int .u8 202) := by rw [hw3]; exact cell_of_row _ _ _ _ 47 (0, 0) (heap_alloc_new w2 _)
  clear hw3
  rcases hgr with hg | hg
  · have e1 : lE s = 90 := by rw [HE.out, if_pos (fun k => by have := k.2.2.2; have := HLL.out; omega)]
    have e2 : lN s = 0 := by unfold lN; rw [e1]; rfl
    have HR : Hid (lE s = 90 ∧ lN s = 0) := ⟨e1, e2⟩
    clear e1 e2
    have dg : decide ((16384 : Int) < (L : Int)) = true := decide_eq_true hg
    go_quiet (fail)
    go_wp2_with fail
    go_ret2
    exact ⟨by rw [HR.out.1, HR.out.2]; rfl, below_drewN HH.out.2 _⟩
  · have hle : L ≤ 16384 := by omega
    have HK : Hid (∀ q, Calls Try.prog 25 #[.slice (some ⟨b, off, none⟩) 7 c, .slice (some ⟨w2.heap.size, 0, none⟩) 7 7] (w3.drewN q) fun e w' => e = .returned (.bool (decide (okH s))) ∧ w' = w3.drewN q) := fun q => by
      have h1 := HT.out (w3.drewN q) (below_drewN HH.out.2 q)
      have h2 : Vw (w3.drewN q) (some ⟨w2.heap.size, 0, none⟩) w2.heap.size 0 (hd7 L) := HH.out.1.drewN q
      have K := bEqual_any (c := c) (c' := 7) h1.1 h2
      rw [h1.2, hd7_len] at K
      have e : decide (s.take 7 = hd7 L) = decide (okH s) := decide_eq_decide.2 (by
        have := HLE.out (by have := HLL.out; omega)
        rw [← HLL.out] at this
        exact this)
      rw [e] at K
      exact K
    have dg : decide ((16384 : Int) < (L : Int)) = false := decide_eq_false (by omega)
    have c7 : (7 : Int) ≤ (c : Int) := by omega
    by_cases hk : okH s
    · have e1 : lE s = 0 := by rw [HE.out, if_neg (fun k => k hk)]
      have e2 : lN s = L := by unfold lN; rw [e1, if_pos rfl]; exact HLL.out.symm
      have HR : Hid (lE s = 0 ∧ lN s = L) := ⟨e1, e2⟩
      rw [decide_eq_true hk] at HK
      clear e1 e2 hk
      go_quiet ((go_at_call 25; exact Calls.quiet_of_same (HK.out _)))
      go_wp2_with fail
      go_ret2
      exact ⟨by rw [HR.out.1, HR.out.2]; rfl, below_drewN HH.out.2 _⟩
    · have e1 : lE s = 90 := by rw [HE.out, if_pos hk]
      have e2 : lN s = 0 := by unfold lN; rw [e1]; rfl
      have HR : Hid (lE s = 90 ∧ lN s = 0) := ⟨e1, e2⟩
      rw [decide_eq_false hk] at HK
      clear e1 e2 hk
      go_quiet ((go_at_call 25; exact Calls.quiet_of_same (HK.out _)))
      go_wp2_with fail
      go_ret2
      exact ⟨by rw [HR.out.1, HR.out.2]; rfl, below_drewN HH.out.2 _⟩
end Go.Proofs.Ytnknhjabebcmeaa
