import Derived.Test.YtlhllbggnpcoaaaDoorFg0
/-
  The laws' own Bits, and bits of bytes.
-/
namespace Go.Proofs.YtlhllbggnpcoaaaDoor
open Go.RowKit Go.Sort Go.Maps

def nbits (x : Int) : Nat := 8 + (Int.tmod x 249).natAbs
theorem nbits_le (x : Int) : 8 ≤ nbits x ∧ nbits x ≤ 256 := by
  unfold nbits
  have h1 := Int.natAbs_tmod x 249
  have h2 := Nat.mod_lt x.natAbs (show 0 < 249 by decide)
  have h3 : (249 : Int).natAbs = 249 := rfl
  rw [h3] at h1
  omega
theorem bits_any (w : World) (x : Int) : Calls Tryd.prog 6 #[.int .i64 x] w fun e w' => e = .returned (.int .i64 (nbits x : Nat)) ∧ w' = w := by
  have hb := nbits_le x
  have HE : Hid (nbits x = 8 + (Int.tmod x 249).natAbs) := (rfl : nbits x = 8 + (Int.tmod x 249).natAbs)
  have e0 := HE.out
  have r1 : -249 < Int.tmod x 249 ∧ Int.tmod x 249 < 249 := by omega
  obtain ⟨n, hn⟩ : ∃ n, n = nbits x := ⟨_, rfl⟩
  rw [← hn] at HE ⊢
  clear hb e0 hn
  by_cases hn : Int.tmod x 249 < 0
  · have HV : Hid ((n : Int) = 8 + -Int.tmod x 249) := by show (n : Int) = 8 + -Int.tmod x 249; have := HE.out; omega
    go_enter Tryd.func6, Tryd.ntmps6
    go_wp2_with fail
    go_ret
    refine ⟨?_, rfl⟩
    rw [HV.out]; rfl
  · have HV : Hid ((n : Int) = 8 + Int.tmod x 249) := by show (n : Int) = 8 + Int.tmod x 249; have := HE.out; omega
    go_enter Tryd.func6, Tryd.ntmps6
    go_wp2_with fail
    go_ret
    refine ⟨?_, rfl⟩
    rw [HV.out]; rfl

theorem keep_bit : ∀ j, j < 9 → ∀ m, m < 8 → ∀ x, x < 256 → (m < j → keep j x / 2 ^ (7 - m) % 2 = x / 2 ^ (7 - m) % 2) ∧ (j ≤ m → keep j x / 2 ^ (7 - m) % 2 = 0) := by decide +kernel
theorem cutf_bit (n : Nat) (f : Nat → Nat) (hf : ∀ i, f i < 256) (i : Nat) (hi : i < 256) :
    (i < n → cutf n f (i / 8) / 2 ^ (7 - i % 8) % 2 = cutf 256 f (i / 8) / 2 ^ (7 - i % 8) % 2) ∧ (n ≤ i → cutf n f (i / 8) / 2 ^ (7 - i % 8) % 2 = 0) := by
  have s1 := stay_le n (i / 8)
  have s2 : stay 256 (i / 8) = 8 := by unfold stay; omega
  have k1 := keep_bit (stay n (i / 8)) (by omega) (i % 8) (by omega) (f (i / 8)) (hf _)
  have k2 := keep_bit (stay 256 (i / 8)) (by omega) (i % 8) (by omega) (f (i / 8)) (hf _)
  unfold cutf
  refine ⟨fun h => ?_, fun h => ?_⟩
  · rw [k1.1 (by unfold stay; omega), k2.1 (by omega)]
  · exact k1.2 (by unfold stay; omega)
theorem half_pow : ∀ j, j < 8 → 128 / 2 ^ j / 2 = 128 / 2 ^ (j + 1) := by decide
theorem pow_half : ∀ j, j < 8 → 128 / 2 ^ j = 2 ^ (7 - j) := by decide
end Go.Proofs.YtlhllbggnpcoaaaDoor

/-
  Calls of one of two books, of strings that were there before.
-/
namespace Go.Proofs.YtlhllbggnpcoaaaDoor
open Go.RowKit Go.Sort Go.Maps

section
variable {w0 w : World} {sb1 : Nat} {st1 : Bst} {sb2 : Nat} {st2 : Bst} {R : List (Nat × Array Value)}
theorem arg_apart {F : Nat → Prop} {a : Option Addr} {b o : Nat} {t : List Nat} (hv : Vw w0 a b o t) (lm : ∀ i, F i → w0.heap.size ≤ i ∧ i < w.heap.size) : 0 < t.length → ¬ F b := fun h q => by
  have := hv.lt h
  have := (lm b q).1
  omega
theorem Two4.hash2 (h : Two4 w0 w sb1 st1 sb2 st2 R) (hL : st2.LH.length ≤ 549755813888) (a : Option Addr) (b o c : Nat) (t : List Nat) (hv : Vw w0 a b o t) (hc : t.length ≤ c) (hs : t.length ≤ 140737488355328) :
    Calls Tryd.prog 10 #[.pointer (some ⟨sb2, 0, none⟩), .slice a t.length c] w fun e w' => e = .returned (.agg (hA (kh st2.bits t))) ∧ Two4 w0 w' sb1 st1 sb2 { st2 with LH := ins t st2.LH } R := by
  obtain ⟨F, bk, lm, gr, nx⟩ := h.two w (Below.refl _ _)
  refine (hash_any4 _ w0.heap.size sb2 _ F bk gr h.belowW.2.2 hL a b o c t (hv.below h.belowW.1) hc hs (arg_apart hv lm)).mono ?_
  rintro _ w' ⟨rfl, tn⟩
  exact ⟨rfl, nx _ _ tn⟩
theorem Two4.hash1 (h : Two4 w0 w sb1 st1 sb2 st2 R) (hL : st1.LH.length ≤ 549755813888) (a : Option Addr) (b o c : Nat) (t : List Nat) (hv : Vw w0 a b o t) (hc : t.length ≤ c) (hs : t.length ≤ 140737488355328) :
    Calls Tryd.prog 10 #[.pointer (some ⟨sb1, 0, none⟩), .slice a t.length c] w fun e w' => e = .returned (.agg (hA (kh st1.bits t))) ∧ Two4 w0 w' sb1 { st1 with LH := ins t st1.LH } sb2 st2 R :=
  (h.swap.hash2 hL a b o c t hv hc hs).mono (fun _ _ ⟨e, q⟩ => ⟨e, q.swap⟩)
theorem Two4.code2 (h : Two4 w0 w sb1 st1 sb2 st2 R) (hL : st2.LC.length ≤ 549755813888) (a : Option Addr) (b o c : Nat) (t : List Nat) (hv : Vw w0 a b o t) (hc : t.length ≤ c) (hs : t.length ≤ 140737488355328) :
    Calls Tryd.prog 11 #[.pointer (some ⟨sb2, 0, none⟩), .slice a t.length c] w fun e w' => e = .returned (.agg (hA (kc st2.cbits st2.S t))) ∧ Two4 w0 w' sb1 st1 sb2 { st2 with LC := ins t st2.LC } R := by
  obtain ⟨F, bk, lm, gr, nx⟩ := h.two w (Below.refl _ _)
  refine (code_any4 _ w0.heap.size sb2 _ F bk gr h.belowW.2.2 hL a b o c t (hv.below h.belowW.1) hc hs (arg_apart hv lm)).mono ?_
  rintro _ w' ⟨rfl, tn⟩
  exact ⟨rfl, nx _ _ tn⟩
theorem Two4.code1 (h : Two4 w0 w sb1 st1 sb2 st2 R) (hL : st1.LC.length ≤ 549755813888) (a : Option Addr) (b o c : Nat) (t : List Nat) (hv : Vw w0 a b o t) (hc : t.length ≤ c) (hs : t.length ≤ 140737488355328) :
    Calls Tryd.prog 11 #[.pointer (some ⟨sb1, 0, none⟩), .slice a t.length c] w fun e w' => e = .returned (.agg (hA (kc st1.cbits st1.S t))) ∧ Two4 w0 w' sb1 { st1 with LC := ins t st1.LC } sb2 st2 R :=
  (h.swap.code2 hL a b o c t hv hc hs).mono (fun _ _ ⟨e, q⟩ => ⟨e, q.swap⟩)
theorem Two4.own2 (h : Two4 w0 w sb1 st1 sb2 st2 R) (hL : st2.LC.length ≤ 549755813888) (a : Option Addr) (b o c : Nat) (t : List Nat) (hv : Vw w0 a b o t) (hc : t.length ≤ c) (k : List Nat) (hk : IsH k) (he : k = kc st2.cbits st2.S t) (hin : t ∈ st2.LC) :
    Calls Tryd.prog 12 #[.pointer (some ⟨sb2, 0, none⟩), .slice a t.length c, .agg (hA k)] w fun e w' => e = .returned (.bool true) ∧ Two4 w0 w' sb1 st1 sb2 st2 R := by
  obtain ⟨F, bk, lm, gr, nx⟩ := h.two w (Below.refl _ _)
  refine (accept_own _ w0.heap.size sb2 _ F bk gr h.belowW.2.2 hL a b o c t (hv.below h.belowW.1) hc (arg_apart hv lm) k hk he hin).mono ?_
  rintro _ w' ⟨rfl, tn⟩
  exact ⟨rfl, nx _ _ tn⟩
theorem Two4.own1 (h : Two4 w0 w sb1 st1 sb2 st2 R) (hL : st1.LC.length ≤ 549755813888) (a : Option Addr) (b o c : Nat) (t : List Nat) (hv : Vw w0 a b o t) (hc : t.length ≤ c) (k : List Nat) (hk : IsH k) (he : k = kc st1.cbits st1.S t) (hin : t ∈ st1.LC) :
    Calls Tryd.prog 12 #[.pointer (some ⟨sb1, 0, none⟩), .slice a t.length c, .agg (hA k)] w fun e w' => e = .returned (.bool true) ∧ Two4 w0 w' sb1 st1 sb2 st2 R :=
  (h.swap.own2 hL a b o c t hv hc k hk he hin).mono (fun _ _ ⟨e, q⟩ => ⟨e, q.swap⟩)
theorem Two4.no2 (h : Two4 w0 w sb1 st1 sb2 st2 R) (a : Option Addr) (b o c : Nat) (t : List Nat) (hv : Vw w0 a b o t) (hc : t.length ≤ c) (k : List Nat) (hk : IsH k) (hne : kc st2.cbits st2.S t ≠ k) :
    Calls Tryd.prog 12 #[.pointer (some ⟨sb2, 0, none⟩), .slice a t.length c, .agg (hA k)] w fun e w' => e = .returned (.bool false) ∧ Two4 w0 w' sb1 st1 sb2 st2 R := by
  obtain ⟨F, bk, lm, gr, nx⟩ := h.two w (Below.refl _ _)
  refine (accept_no _ w0.heap.size sb2 _ F bk gr h.belowW.2.2 a b o c t (hv.below h.belowW.1) hc (arg_apart hv lm) k hk hne).mono ?_
  rintro _ w' ⟨rfl, tn⟩
  exact ⟨rfl, nx _ _ tn⟩
theorem Two4.no1 (h : Two4 w0 w sb1 st1 sb2 st2 R) (a : Option Addr) (b o c : Nat) (t : List Nat) (hv : Vw w0 a b o t) (hc : t.length ≤ c) (k : List Nat) (hk : IsH k) (hne : kc st1.cbits st1.S t ≠ k) :
    Calls Tryd.prog 12 #[.pointer (some ⟨sb1, 0, none⟩), .slice a t.length c, .agg (hA k)] w fun e w' => e = .returned (.bool false) ∧ Two4 w0 w' sb1 st1 sb2 st2 R :=
  (h.swap.no2 a b o c t hv hc k hk hne).mono (fun _ _ ⟨e, q⟩ => ⟨e, q.swap⟩)
theorem Two4.forge2 (h : Two4 w0 w sb1 st1 sb2 st2 R) (hL : st2.LC.length ≤ 549755813888) (hLF : st2.LF.length ≤ 549755813888) (a : Option Addr) (b o c : Nat) (t : List Nat) (hv : Vw w0 a b o t) (hc : t.length ≤ c) (hs : t.length ≤ 140737488355328) (k : List Nat) (hk : IsH k) (he : k = kc st2.cbits st2.S t) (hin : t ∉ st2.LC) :
    Calls Tryd.prog 12 #[.pointer (some ⟨sb2, 0, none⟩), .slice a t.length c, .agg (hA k)] w fun e w' => e = .returned (.bool true) ∧ Two4 w0 w' sb1 st1 sb2 { st2 with LF := ins t st2.LF } R := by
  obtain ⟨F, bk, lm, gr, nx⟩ := h.two w (Below.refl _ _)
  refine (accept_forge _ w0.heap.size sb2 _ F bk gr h.belowW.2.2 hL hLF a b o c t (hv.below h.belowW.1) hc hs (arg_apart hv lm) k hk he hin).mono ?_
  rintro _ w' ⟨rfl, tn⟩
  exact ⟨rfl, nx _ _ tn⟩
theorem Two4.sound2 (h : Two4 w0 w sb1 st1 sb2 st2 R) :
    Calls Tryd.prog 13 #[.pointer (some ⟨sb2, 0, none⟩)] w fun e w' => e = .returned (.bool (decide (Lone (kh st2.bits) st2.LH) && decide (Lone (kc st2.cbits st2.S) st2.LC) && decide (st2.LF.length = 0))) ∧ Two4 w0 w' sb1 st1 sb2 st2 R := by
  obtain ⟨F, bk, lm, gr, nx⟩ := h.two w (Below.refl _ _)
  refine (sound_any _ w0.heap.size sb2 _ F bk).mono ?_
  rintro _ w' ⟨rfl, tn⟩
  exact ⟨rfl, nx _ _ tn⟩
theorem Two4.sound1 (h : Two4 w0 w sb1 st1 sb2 st2 R) :
    Calls Tryd.prog 13 #[.pointer (some ⟨sb1, 0, none⟩)] w fun e w' => e = .returned (.bool (decide (Lone (kh st1.bits) st1.LH) && decide (Lone (kc st1.cbits st1.S) st1.LC) && decide (st1.LF.length = 0))) ∧ Two4 w0 w' sb1 st1 sb2 st2 R :=
  h.swap.sound2.mono (fun _ _ ⟨e, q⟩ => ⟨e, q.swap⟩)
theorem Two4.len2 (h : Two4 w0 w sb1 st1 sb2 st2 R) :
    Calls Tryd.prog 18 #[.pointer (some ⟨sb2, 0, none⟩)] w fun e w' => e = .returned (.tuple #[.int .i64 (st2.LH.length : Nat), .int .i64 (st2.LC.length : Nat)]) ∧ Two4 w0 w' sb1 st1 sb2 st2 R := by
  obtain ⟨F, bk, lm, gr, nx⟩ := h.two w (Below.refl _ _)
  refine (len_any4 _ w0.heap.size sb2 _ F bk).mono ?_
  rintro _ w' ⟨rfl, tn⟩
  exact ⟨rfl, nx _ _ tn⟩
theorem Two4.forges0 (h : Two4 w0 w sb1 st1 sb2 st2 R) (hL : st2.LF = []) :
    Calls Tryd.prog 14 #[.pointer (some ⟨sb2, 0, none⟩)] w fun e w' => e = .returned (.slice none 0 0) ∧ Two4 w0 w' sb1 st1 sb2 st2 R := by
  obtain ⟨F, bk, lm, gr, nx⟩ := h.two w (Below.refl _ _)
  refine (forgeries_none _ w0.heap.size sb2 _ F bk hL).mono ?_
  rintro _ w' ⟨rfl, tn⟩
  exact ⟨rfl, nx _ _ tn⟩
/-- two hashes laid into two boxes at once -/
theorem Two4.box2 (h : Two4 w0 w sb1 st1 sb2 st2 R) (c d : Array Value) : Two4 w0 ((((w.alloc (.cells Z32 31)).alloc (.cells Z32 31)).setRow w.heap.size c).setRow (w.heap.size + 1) d) sb1 st1 sb2 st2 ((w.heap.size + 1, d) :: (w.heap.size, c) :: R) := by
  obtain ⟨F1, F2, h⟩ := h
  have hb : Below w.heap.size w ((((w.alloc (.cells Z32 31)).alloc (.cells Z32 31)).setRow w.heap.size c).setRow (w.heap.size + 1) d) := below_setRow (below_setRow (((Below.refl _ _).alloc (Nat.le_refl _) _).alloc (by simp) _) (Nat.le_refl _) _) (by omega) _
  have h2 := h.step hb
  have e0 : ((w.alloc (.cells Z32 31)).alloc (.cells Z32 31)).heap[w.heap.size]? = some (.cells Z32 31 (0, 0)) := (heap_alloc_old _ _ (by simp)).trans (heap_alloc_new _ _)
  have e1 : ((w.alloc (.cells Z32 31)).alloc (.cells Z32 31)).heap[w.heap.size + 1]? = some (.cells Z32 31 (0, 0)) := by
    have := heap_alloc_new (w.alloc (.cells Z32 31)) (.cells Z32 31)
    simpa using this
  refine ⟨F1, F2, { h2 with keep := fun p hp => ?_ }⟩
  rcases List.mem_cons.1 hp with rfl | hp
  · refine ⟨setRow_heap _ _ _ _ _ _ ((setRow_other _ _ _ _ (by omega)).trans e1), by simp, fun q => ?_, fun q => ?_⟩
    · have := (h.b1.lim _ q).2; omega
    · have := (h.b2.lim _ q).2; omega
  rcases List.mem_cons.1 hp with rfl | hp
  · refine ⟨(setRow_other _ _ _ _ (by omega)).trans (setRow_heap _ _ _ _ _ _ e0), by simp; omega, fun q => ?_, fun q => ?_⟩
    · have := (h.b1.lim _ q).2; omega
    · have := (h.b2.lim _ q).2; omega
  · exact h2.keep p hp
end
end Go.Proofs.YtlhllbggnpcoaaaDoor
