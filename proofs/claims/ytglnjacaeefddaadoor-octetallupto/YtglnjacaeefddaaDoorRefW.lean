import Derived.Test.YtglnjacaeefddaaDoorOrderW
namespace Go.Proofs.YtglnjacaeefddaaDoor
open Go.RowKit

set_option maxHeartbeats 800000 in
theorem rwithin_any (w : World) (a f t : Option Addr) (b off n c fb fo nf fc tb to nt tc : Nat) (K F T : Nat → Int) (o : Bool)
    (h : View w a b off n K) (hf : View w f fb fo nf F) (ht : View w t tb to nt T) :
    Calls Tryd.prog 22 #[.slice a n c, .agg #[.slice f nf fc, .slice t nt tc, .bool o]] w fun e w' => e = .returned (.bool (wit nf n nt F K T o)) ∧ Below w.heap.size w w' := by
  have b1 : ∀ x, Below w.heap.size w (w.alloc x) := fun x => (Below.refl _ _).alloc (Nat.le_refl _) x
  have HK : Hid (∀ w', Below w.heap.size w w' → View w' a b off n K) := fun w' hb => h.below hb
  have HF : Hid (∀ w', Below w.heap.size w w' → View w' f fb fo nf F) := fun w' hb => hf.below hb
  have HT : Hid (∀ w', Below w.heap.size w w' → View w' t tb to nt T) := fun w' hb => ht.below hb
  clear h hf ht
  have hw : wit nf n nt F K T o = (decide (cmp nf n F K ≤ 0) && (o || decide (cmp n nt K T < 0))) := rfl
  rw [hw]
  clear hw
  have k1 := rcompare_any _ f a fb fo nf fc b off n c F K (HF.out _ (b1 (.cells #[.slice f nf fc, .slice t nt tc, .bool o] 29))) (HK.out _ (b1 (.cells #[.slice f nf fc, .slice t nt tc, .bool o] 29)))
  have k2 := fun q => rcompare_any _ a t b off n c tb to nt tc K T (HK.out _ (below_drewN (b1 (.cells #[.slice f nf fc, .slice t nt tc, .bool o] 29)) q)) (HT.out _ (below_drewN (b1 (.cells #[.slice f nf fc, .slice t nt tc, .bool o] 29)) q))
  have B : ∀ q, Below w.heap.size w ((w.alloc (.cells #[.slice f nf fc, .slice t nt tc, .bool o] 29)).drewN q) := fun q => below_drewN (b1 _) q
  clear b1 HK HF HT
  have hc := cmp_bd nf n F K
  have hc2 := cmp_bd n nt K T
  obtain ⟨x, hx⟩ : ∃ x, x = cmp nf n F K := ⟨_, rfl⟩
  obtain ⟨y, hy⟩ : ∃ y, y = cmp n nt K T := ⟨_, rfl⟩
  rw [← hx] at hc k1
  rw [← hy] at hc2 k2
  rw [← hx, ← hy]
  clear hx hy
  by_cases e1 : 0 < x
  · have r : (decide (x ≤ 0) && (o || decide (y < 0))) = false := by simp; omega
    rw [r]
    clear r
    go_enter Tryd.func22, Tryd.ntmps22
    go_wp2_with fail
    refine k1.mono ?_
    rintro e w1 ⟨rfl, q, rfl⟩
    go_wp2
    go_ret
    exact ⟨rfl, B q⟩
  · have r : (decide (x ≤ 0) && (o || decide (y < 0))) = (o || decide (y < 0)) := by have : x ≤ 0 := by omega
                                                                                     simp [this]
    rw [r]
    clear r
    cases o
    · go_enter Tryd.func22, Tryd.ntmps22
      go_wp2_with fail
      refine k1.mono ?_
      rintro e w1 ⟨rfl, q, rfl⟩
      go_wp2_with fail
      refine (k2 q).mono ?_
      rintro e w1 ⟨rfl, q', rfl⟩
      go_wp2
      go_ret
      exact ⟨by simp, B _⟩
    · go_enter Tryd.func22, Tryd.ntmps22
      go_wp2_with fail
      refine k1.mono ?_
      rintro e w1 ⟨rfl, q, rfl⟩
      go_wp2
      go_ret
      exact ⟨rfl, B q⟩


/-- the sixteen digits as a text -/
def digS : ByteArray := ⟨#[48, 49, 50, 51, 52, 53, 54, 55, 56, 57, 97, 98, 99, 100, 101, 102]⟩
theorem digS_size : digS.size = 16 := rfl
theorem digS_at : ∀ i, i < 16 → sv digS i = dig i := by
  simp only [small_cases]
  refine ⟨?_, ?_, ?_, ?_, ?_, ?_, ?_, ?_, ?_, ?_, ?_, ?_, ?_, ?_, ?_, ?_, small_none⟩
  all_goals (unfold dig sv digS; simp)

/-- the number of a digit, or 16 -/
def dgt (c : Int) : Int := if (48 ≤ c ∧ c ≤ 57) ∨ (97 ≤ c ∧ c ≤ 102) then val c else 16

set_option maxHeartbeats 400000 in
theorem rdigit_any (w : World) (c : Int) :
    Calls Tryd.prog 28 #[.int .u8 c] w fun e w' => e = .returned (.int .u8 (dgt c)) ∧ w' = w := by
  go_enter Tryd.func28, Tryd.ntmps28
  go_wp2
  go_loopg [3] 16 (fun g i wr => ∃ k : Nat, k ≤ 16 ∧ g = 16 - k ∧ i = .int .i64 k ∧ (∀ i, i < k → dig i ≠ c) ∧ wr = w)
  case atStart => exact ⟨0, Nat.zero_le _, rfl, rfl, fun i hi => absurd hi (by omega), rfl⟩
  case round =>
    obtain ⟨k, hk, rfl, rfl, hs, rfl⟩ := hrel
    have HS : Hid (∀ i, i < k → dig i ≠ c) := hs
    clear hs
    by_cases hkn : k < 16
    · have hk2 : k < digS.size := hkn
      have hdk : ((digS[k]'hk2).toNat : Int) = dig k := by rw [sv_at, digS_at k hkn]
      have HD : Hid (((digS[k]'hk2).toNat : Int) = dig k) := hdk
      clear hdk
      go_wp2
      · have h1 : (((digS[k]'hk2).toNat : Int) == c) = true := by assumption
        rw [HD.out] at h1
        have h2 : dig k = c := by simpa using h1
        go_ret
        refine ⟨ret_int ?_, rfl⟩
        have hv := dig_val k hkn
        rw [h2] at hv
        unfold dgt
        have hv1 : (48 ≤ c ∧ c ≤ 57) ∨ (97 ≤ c ∧ c ≤ 102) := hv.1
        rw [if_pos hv1, hv.2]
      · have h1 : (((digS[k]'hk2).toNat : Int) == c) = false := by assumption
        rw [HD.out] at h1
        have h2 : dig k ≠ c := by simpa using h1
        go_roundg (16 - (k + 1))
        case measure => omega
        case rel => exact ⟨k + 1, by omega, rfl, by go_num, fun i hi => by by_cases ee : i = k; (subst ee; exact h2); exact HS.out i (by omega), rfl⟩
    · have : k = 16 := by omega
      subst this
      go_wp2
      go_ret
      refine ⟨ret_int ?_, rfl⟩
      unfold dgt
      rw [if_neg]
      intro hd
      have := val_dig c hd
      exact HS.out (val c).toNat (by omega) this.2.2


/-- the first j digits of a text -/
def pfx (Z : Nat → Int) (j : Nat) : ByteArray := strOfNums ((List.range j).map (hx Z))
theorem pfx_size (Z : Nat → Int) (j : Nat) : (pfx Z j).size = j := by simp [pfx, strOfNums_size]
/-- one digit -/
def one (i : Nat) : ByteArray := strOfNums [dig i]
theorem one_size (i : Nat) : (one i).size = 1 := rfl
theorem one_extract : ∀ i, i < 16 → digS.extract i (i + 1) = one i := by
  simp only [small_cases]
  refine ⟨?_, ?_, ?_, ?_, ?_, ?_, ?_, ?_, ?_, ?_, ?_, ?_, ?_, ?_, ?_, ?_, small_none⟩
  all_goals (unfold one digS strOfNums dig; rfl)
theorem pfx_succ (Z : Nat → Int) (j i : Nat) (h : hx Z j = dig i) : pfx Z j ++ one i = pfx Z (j + 1) := by
  unfold pfx one strOfNums
  rw [ByteArray.mk_append_mk, List.range_succ, List.map_append, List.map_append, ← h]
  simp
theorem slice_dig (x : Int) (h0 : 0 ≤ x) (h1 : x ≤ 15) (u : World) :
    (Instr.slice 9 (.string digS) (some (.int .u8 x)) (some (.int .u8 (x + 1))) none).run Tryd.prog u = .ok (.string (one x.toNat)) u := by
  have e := run_slice_string (P := Tryd.prog) u 9 digS .u8 .u8 x (x + 1) Tryd.underlying9 h0 (by omega) (by rw [digS_size]; omega)
  rw [e, show (x + 1).toNat = x.toNat + 1 by omega, one_extract _ (by omega)]
theorem slice_dig_at (x : Int) (h0 : 0 ≤ x) (h1 : x ≤ 15) (u : World) :
    (Instr.sliceAt 9 (.string digS) (some (.int .u8 x)) (some (.int .u8 (x + 1))) none).run Tryd.prog u = .ok (.string (one x.toNat)) u := by
  rw [run_sliceAt_string u 9 _ _ _ _ Tryd.underlying9, slice_dig x h0 h1 u]
theorem add_pfx (Z : Nat → Int) (j i : Nat) (h : hx Z j = dig i) (hj : j ≤ 281474976710656) (u : World) : (Op.stringOp .add (pfx Z j) (one i)).run Tryd.prog u = .ok (.string (pfx Z (j + 1))) u := by
  rw [run_string_add_sum u _ _ (by rw [pfx_size, one_size]; omega), pfx_succ Z j i h]
theorem u8_quo (x : Int) (h0 : 0 ≤ x) (h1 : x ≤ 255) : IntKind.u8.wrap (x.tdiv 16) = x / 16 := by
  rw [Int.tdiv_eq_ediv_of_nonneg h0]
  simp [IntKind.wrap, IntKind.signed, IntKind.bits]
  omega
theorem u8_rem (x : Int) (h0 : 0 ≤ x) (_ : x ≤ 255) : IntKind.u8.wrap (x.tmod 16) = x % 16 := by
  rw [Int.tmod_eq_emod_of_nonneg h0]
  simp [IntKind.wrap, IntKind.signed, IntKind.bits]
  omega
theorem u8_same (x : Int) (h0 : 0 ≤ x) (h1 : x ≤ 255) : IntKind.u8.wrap x = x := by
  simp [IntKind.wrap, IntKind.signed, IntKind.bits]
  omega

set_option maxHeartbeats 800000 in
theorem rhex_any (w : World) (a : Option Addr) (b off n c : Nat) (Z : Nat → Int) (h : View w a b off n Z) (hn : n ≤ 140737488355328) :
    Calls Tryd.prog 21 #[.slice a n c] w fun e w' => e = .returned (.string (hexS n Z)) ∧ ∃ q, w' = w.drewN q := by
  go_enter Tryd.func21, Tryd.ntmps21
  go_wp2
  go_loopg [3, 4] n (fun g s i wr => ∃ k : Nat, k ≤ n ∧ g = n - k ∧ s = .string (pfx Z (2 * k)) ∧ i = .int .i64 k ∧ ∃ q, wr = w.drewN q)
  case atStart => exact ⟨0, Nat.zero_le _, rfl, rfl, rfl, 0, rfl⟩
  case round =>
    obtain ⟨k, hk, rfl, rfl, rfl, q, rfl⟩ := hrel
    by_cases hkn : k < n
    · obtain rfl := h.at_ (by omega)
      have c1 := h.cell k hkn
      obtain ⟨bd1, bd2⟩ := h.bd k hkn
      have i1 : (k : Int) < (n : Int) := by omega
      have q1 := u8_quo (Z k) bd1 bd2
      have q2 := u8_rem (Z k) bd1 bd2
      have q3 := u8_same (Z k / 16 + 1) (by omega) (by omega)
      have q4 := u8_same (Z k % 16 + 1) (by omega) (by omega)
      have s1 := slice_dig (Z k / 16) (by omega) (by omega)
      have s2 := slice_dig (Z k % 16) (by omega) (by omega)
      have s3 := slice_dig_at (Z k / 16) (by omega) (by omega)
      have s4 := slice_dig_at (Z k % 16) (by omega) (by omega)
      have a1 := add_pfx Z (2 * k) (Z k / 16).toNat (hx_even Z k) (by omega)
      have a2 := add_pfx Z (2 * k + 1) (Z k % 16).toNat (hx_odd Z k) (by omega)
      simp only [digS] at s1 s2 s3 s4
      go_wp2
      go_quiet (fail)
      go_wp2
      go_roundg (n - (k + 1))
      case measure => omega
      case rel => exact ⟨k + 1, by omega, rfl, rfl, by go_num, _, rfl⟩
    · have : k = n := by omega
      subst this
      go_wp2
      go_ret
      exact ⟨rfl, _, rfl⟩

end Go.Proofs.YtglnjacaeefddaaDoor
