import Derived.Test.YtadcbhjmbgenbaaMeme
import Derived.Laws.Bits64b
/-
  The program's small calls: standsAlone, digitCount, numberOf, headSize.
-/
namespace Go.Proofs.Ytadcbhjmbgenbaa
open Go.RowKit

set_option maxRecDepth 100000 in
set_option maxHeartbeats 800000 in
theorem alone_any (w : World) (a : Option Addr) (b off c : Nat) (s : List Nat) (hv : Vw w a b off s) :
    Calls Try.prog 68 #[.slice a s.length c] w fun e w' => e = .returned (.bool (alone s)) ∧ w' = w := by
  by_cases h1 : s.length = 1
  · obtain rfl := hv.at_ (by omega)
    have c0 := hv.cell 0 (by omega)
    have ea : alone s = decide (gd s 0 < 128) := by simp [alone, h1]
    rw [ea, h1]
    generalize gd s 0 = x at c0
    clear hv ea h1
    rw [Nat.add_zero] at c0
    by_cases h2 : x < 128
    · have h2' : (x : Int) < 128 := by omega
      rw [decide_eq_true h2]
      go_enter Try.func68, Try.ntmps68
      go_wp2_with fail
      go_ret
      exact ⟨rfl, rfl⟩
    · have h2' : ¬ (x : Int) < 128 := by omega
      rw [decide_eq_false h2]
      go_enter Try.func68, Try.ntmps68
      go_wp2_with fail
      go_ret
      exact ⟨rfl, rfl⟩
  · have ea : alone s = false := by simp [alone, h1]
    rw [ea]
    have hn : ¬ ((s.length : Int) = 1) := by omega
    generalize s.length = n at hn
    clear hv ea h1
    go_enter Try.func68, Try.ntmps68
    go_wp2_with fail
    go_ret
    exact ⟨rfl, rfl⟩

set_option maxRecDepth 100000 in
set_option maxHeartbeats 800000 in
theorem digitCount_any (w : World) (n : Nat) (hn : n < 18446744073709551616) :
    Calls Try.prog 80 #[.int .u64 n] w fun e w' => e = .returned (.int .i64 (digs n).length) ∧ w' = w := by
  have HL : Hid ((digs n).length ≤ 8) := digs_len_le (by omega)
  go_enter Try.func80, Try.ntmps80
  go_wp2_with fail
  go_loopg [0, 3] n (fun gg u k wr => ∃ (m j : Nat), gg = m ∧ m ≤ n ∧ u = .int .u64 m ∧ k = .int .i64 j ∧ j + (digs m).length = (digs n).length ∧ wr = w)
  case atStart => exact ⟨n, 0, rfl, Nat.le_refl _, rfl, rfl, Nat.zero_add _, rfl⟩
  case round =>
    obtain ⟨m, j, rfl, hm, rfl, rfl, hj, ewr⟩ := hrel
    subst ewr
    have HJ : Hid (j + (digs gk).length = (digs n).length) := hj
    clear hj
    by_cases h0 : 0 < gk
    · have i1 : (0 : Int) < (gk : Int) := by omega
      have e1 : (digs gk).length = (digs (gk / 256)).length + 1 := by rw [digs_pos h0]; simp
      have HE : Hid ((digs gk).length = (digs (gk / 256)).length + 1) := e1
      clear e1
      have l1 : j ≤ 8 := by have := HJ.out; have := HL.out; omega
      go_wp2_with fail
      go_roundg (gk / 256)
      case measure => omega
      case rel => exact ⟨gk / 256, j + 1, rfl, by omega, by go_num, by go_num, by have := HJ.out; have := HE.out; omega, rfl⟩
    · have e0 : gk = 0 := by omega
      subst e0
      have hj2 : j = (digs n).length := by have := HJ.out; rw [digs_zero] at this; simpa using this
      have HJ2 : Hid (j = (digs n).length) := hj2
      clear hj2
      clear HJ
      go_wp2_with fail
      go_ret
      exact ⟨by rw [HJ2.out]; rfl, rfl⟩

set_option maxRecDepth 100000 in
set_option maxHeartbeats 800000 in
theorem headSize_any (w : World) (n : Nat) (hn : n < 9223372036854775808) :
    Calls Try.prog 69 #[.int .i64 n] w fun e w' => e = .returned (.int .i64 (hdr 0 n).length) ∧ w' = w := by
  by_cases h : n < 56
  · have e1 : (hdr 0 n).length = 1 := by unfold hdr; rw [if_pos h]; rfl
    rw [e1]
    have i1 : (n : Int) < 56 := by omega
    go_enter Try.func69, Try.ntmps69
    go_wp2_with fail
    go_ret
    exact ⟨rfl, rfl⟩
  · have e1 : (hdr 0 n).length = 1 + (digs n).length := by unfold hdr; rw [if_neg h]; simp; omega
    have K := digitCount_any w n (by omega)
    have l1 : (digs n).length ≤ 8 := digs_len_le (by omega)
    rw [e1]
    generalize (digs n).length = k at K l1
    clear e1
    have i1 : ¬ (n : Int) < 56 := by omega
    go_enter Try.func69, Try.ntmps69
    go_wp2_with (go_at_call 80; refine K.mono ?_; rintro e w' ⟨rfl, rfl⟩)
    go_ret
    exact ⟨by go_num, rfl⟩

theorem num_lt {s : List Nat} (h : ∀ x ∈ s, x < 256) : num s < 256 ^ s.length := by
  suffices ∀ (m : Nat) (s : List Nat), s.length = m → (∀ x ∈ s, x < 256) → num s < 256 ^ m from this _ s rfl h
  intro m
  induction m with
  | zero => intro s h _
            obtain rfl : s = [] := List.eq_nil_of_length_eq_zero h
            decide
  | succ m ih =>
    intro s hl hb
    obtain ⟨t, x, rfl⟩ : ∃ t x, s = t ++ [x] := ⟨s.dropLast, s.getLast (by intro e; simp [e] at hl), (List.dropLast_concat_getLast _).symm⟩
    have := ih t (by simpa using hl) (fun y hy => hb y (by simp [hy]))
    have := hb x (by simp)
    rw [num_app1, Nat.pow_succ]
    omega
theorem take_gd {s : List Nat} {i : Nat} (h : i < s.length) : s.take (i + 1) = s.take i ++ [gd s i] := by rw [List.take_succ_eq_append_getElem h, gd_get h]
theorem num_take {s : List Nat} {i : Nat} (h : i < s.length) : num (s.take (i + 1)) = num (s.take i) * 256 + gd s i := by rw [take_gd h, num_app1]

theorem or_byte (m x : Nat) (hm : m < 72057594037927936) (hx : x < 256) : bits .or .u64 ((m : Int) * 256) (x : Int) = ((m * 256 + x : Nat) : Int) := by
  have e : ((m : Int) * 256) = ((m * 256 : Nat) : Int) := by omega
  rw [e, bits_or_u64_nat _ _ (by omega) (by omega)]
  have : m * 256 ||| x = m * 256 + x := by
    have := Nat.two_pow_add_eq_or_of_lt (i := 8) (b := x) (by omega) m
    rw [show 2 ^ 8 * m = m * 256 by omega] at this
    exact this.symm
  rw [this]
set_option maxRecDepth 100000 in
set_option maxHeartbeats 800000 in
theorem numberOf_any (w : World) (a : Option Addr) (b off c : Nat) (s : List Nat) (hv : Vw w a b off s) (h8 : s.length ≤ 8) :
    Calls Try.prog 85 #[.slice a s.length c] w fun e w' => e = .returned (.int .u64 (num s)) ∧ w' = w := by
  have HV : Hid (Vw w a b off s) := hv
  obtain ⟨n, en⟩ : ∃ n, n = s.length := ⟨_, rfl⟩
  have HN : Hid (n = s.length) := en
  rw [← en]
  have h8' : n ≤ 8 := by omega
  clear hv h8 en
  go_enter Try.func85, Try.ntmps85
  go_wp2_with fail
  go_loopg [3, 8] n (fun gg u k wr => ∃ (i : Nat), i ≤ n ∧ gg = n - i ∧ u = .int .u64 (num (s.take i)) ∧ k = .int .i64 i ∧ wr = w)
  case atStart => exact ⟨0, Nat.zero_le _, rfl, rfl, rfl, rfl⟩
  case round =>
    obtain ⟨i, hi, rfl, rfl, rfl, ewr⟩ := hrel
    subst ewr
    by_cases h0 : i < n
    · have i1 : (i : Int) < (n : Int) := by omega
      obtain rfl := HV.out.at_ (by have := HN.out; omega)
      have c0 := HV.out.cell i (by have := HN.out; omega)
      have hb := (vw_ok HV.out).2
      have hx := gd_lt hb i
      have ht := num_lt (s := s.take i) (fun x hx => hb x (List.mem_of_mem_take hx))
      have e2 : num (s.take (i + 1)) = num (s.take i) * 256 + gd s i := num_take (by have := HN.out; omega)
      have hl : (s.take i).length = i := by simp; have := HN.out; omega
      rw [hl] at ht
      have ht2 : num (s.take i) < 72057594037927936 := Nat.lt_of_lt_of_le ht (by
        have : (72057594037927936 : Nat) = 256 ^ 7 := by decide
        rw [this]
        exact Nat.pow_le_pow_right (by decide) (by omega))
      have HE : Hid (num (s.take (i + 1)) = num (s.take i) * 256 + gd s i) := e2
      clear e2 ht hl hb
      generalize num (s.take i) = m at *
      generalize gd s i = x at *
      have HO : Hid (bits .or .u64 ((m : Int) * 256) (x : Int) = ((m * 256 + x : Nat) : Int)) := or_byte m x ht2 hx
      go_wp2_with fail
      go_roundg (n - (i + 1))
      case measure => omega
      case rel => exact ⟨i + 1, h0, rfl, by rw [HE.out, HO.out], by go_num, rfl⟩
    · have e0 : i = n := by omega
      have e2 : num (s.take i) = num s := by rw [List.take_of_length_le (by have := HN.out; omega)]
      have HE : Hid (num (s.take i) = num s) := e2
      have i1 : ¬ (i : Int) < (n : Int) := by omega
      clear e2
      go_wp2_with fail
      go_ret
      exact ⟨by rw [← HE.out, e0]; rfl, rfl⟩
end Go.Proofs.Ytadcbhjmbgenbaa

/-
  The program's writing from the end on: writeEnd, digitsOf, writeHead.
-/
namespace Go.Proofs.Ytadcbhjmbgenbaa
open Go.RowKit

/-- a block of bytes -/
def Rm (w : World) (g : Nat) (t : List Nat) : Prop := w.heap[g]? = some (.cells (bv t).toArray 5 (0, 0))
theorem Rm.turn {w w' : World} {g : Nat} {t : List Nat} {F : Nat → Prop} (h : Rm w g t) (k : Turn F w w') (hg : ¬ F g) : Rm w' g t := by
  have hl : g < w.heap.size := (Array.getElem?_eq_some_iff.1 h).1
  exact (k.block g hl hg).trans h
theorem Rm.lt {w : World} {g : Nat} {t : List Nat} (h : Rm w g t) : g < w.heap.size := (Array.getElem?_eq_some_iff.1 h).1
theorem Rm.below {w w' : World} {g : Nat} {t : List Nat} (h : Rm w g t) (k : Below w.heap.size w w') : Rm w' g t := (k.block g h.lt).trans h
theorem bv_splice (t s : List Nat) (o : Nat) : bv (splice t o s) = splice (bv t) o (bv s) := by simp [splice, bv, List.map_take, List.map_drop]

set_option maxRecDepth 100000 in
set_option maxHeartbeats 800000 in
theorem writeEnd_any (w : World) (g L K N : Nat) (t : List Nat) (hr : Rm w g t) (hN : t.length = N) (hLN : L ≤ N) (hN63 : N ≤ 9223372036854775807) (a : Option Addr) (b off c : Nat) (s : List Nat) (hv : Vw w a b off s) (hL : L = K + s.length) :
    Calls Try.prog 70 #[.slice (some ⟨g, 0, none⟩) L N, .slice a s.length c] w fun e w' =>
      e = .returned (.slice (some ⟨g, 0, none⟩) K N) ∧ Rm w' g (splice t K s) ∧ Turn (fun i => i = g) w w' := by
  have j1 := slice_upto (some ⟨g, 0, none⟩) L N K (by omega)
  have j2 := slice_from (some ⟨g, 0, none⟩) L N K (by omega)
  have es : L - K = s.length := by omega
  rw [es] at j2
  have hs : s.length ≤ L := by omega
  have e1 : (L : Int) - (s.length : Int) = (K : Int) := by omega
  have hK : K ≤ 9223372036854775807 := by omega
  have HH : Hid (t.length = N ∧ L ≤ N ∧ L = K + s.length ∧ L - K = s.length ∧ Rm w g t ∧ Vw w a b off s) := ⟨hN, hLN, hL, es, hr, hv⟩
  have hsl : s.length ≤ 9223372036854775807 := by omega
  have hLl : L ≤ 9223372036854775807 := by omega
  obtain ⟨k, ek⟩ : ∃ k, k = s.length := ⟨_, rfl⟩
  have HK : Hid (k = s.length) := ek
  rw [← ek] at j2 e1 hsl hs ⊢
  clear hN hLN hL es hr hv ek
  by_cases h0 : k = 0
  · subst h0
    have eK : K = L := by have := HH.out.2.2.1; have := HK.out; omega
    subst eK
    generalize behind (some ⟨g, 0, none⟩) N K = bh at j2
    clear e1
    go_enter Try.func70, Try.ntmps70
    go_wp2_with (refine wpList_copy_nothing (by rfl) (.tmp 16) (.tmp 17) 22 22 (by rfl) 5 Try.underlying22 info5size _ _ _ _ _ _ (by rfl) (by rfl) (by simp) ?_)
    go_ret
    have e0 : s = [] := List.eq_nil_of_length_eq_zero HK.out.symm
    refine ⟨rfl, ?_, Turn.refl _ _⟩
    rw [e0]
    simpa [splice] using HH.out.2.2.2.2.1
  · have hb : behind (some ⟨g, 0, none⟩) N K = some ⟨g, K, none⟩ := by
      unfold behind
      rw [if_neg (by have := HH.out.1; have := HH.out.2.1; have := HH.out.2.2.1; have := HK.out; omega)]
      simp [add_flat]
    rw [hb] at j2
    have ha := HH.out.2.2.2.2.2.at_ (by have := HK.out; omega)
    subst ha
    have hsrc : ∀ j v, (bv s)[j]? = some v → w.cell? ((⟨b, off, none⟩ : Addr).add j) = some v := fun j v hj => by
      have hj2 : j < s.length := by
        have := (List.getElem?_eq_some_iff.1 hj).1
        rwa [bv_len] at this
      rw [bv_at hj2] at hj
      rw [Go.WideShapes.add_plain, HH.out.2.2.2.2.2.cell j hj2]
      exact hj
    have hone : ∀ v ∈ bv s, v.oneCell' = true := fun v hv => by
      obtain ⟨x, _, rfl⟩ := List.mem_map.1 hv
      rfl
    have hn1 : (bv s).length = Nat.min k k := by rw [bv_len, ← HK.out]; simp
    have hft : K + (bv s).length ≤ (bv t).toArray.size := by
      rw [bv_len, List.size_toArray, bv_len]
      have := HH.out.1
      have := HH.out.2.1
      have := HH.out.2.2.1
      omega
    have hg := HH.out.2.2.2.2.1
    unfold Rm at hg
    have H2 : Hid ((∀ j v, (bv s)[j]? = some v → w.cell? ((⟨b, off, none⟩ : Addr).add j) = some v) ∧ (∀ v ∈ bv s, v.oneCell' = true) ∧ (bv s).length = Nat.min k k ∧ K + (bv s).length ≤ (bv t).toArray.size ∧ w.heap[g]? = some (.cells (bv t).toArray 5 (0, 0))) := ⟨hsrc, hone, hn1, hft, hg⟩
    clear hsrc hone hn1 hft hg
    go_enter Try.func70, Try.ntmps70
    go_wp2_with (refine wpList_copy_own (by rfl) (.tmp 16) (.tmp 17) 22 22 (by rfl) 5 Try.underlying22 info5size g K k (N - K) ⟨b, off, none⟩ k c (by rfl) (by rfl) _ 5 H2.out.2.2.2.2 (bv s) H2.out.2.2.1 H2.out.1 H2.out.2.2.2.1 H2.out.2.1 ?_)
    go_ret
    refine ⟨rfl, ?_, Turn.setRow w g _ rfl⟩
    unfold Rm
    rw [bv_splice]
    simp only [splice]
    exact setRow_heap _ _ _ _ _ _ H2.out.2.2.2.2

theorem digs_lastd {n i : Nat} (h : i < (digs n).length) : gd (digs n) ((digs n).length - 1 - i) = n / 256 ^ i % 256 := by
  induction i generalizing n with
  | zero =>
    have hn : 0 < n := by
      rcases Nat.eq_zero_or_pos n with e | e
      · subst e; simp [digs_zero] at h
      · exact e
    rw [digs_pos hn]
    have := gd_app_r (s := digs (n / 256)) (t := [n % 256]) (i := 0)
    simp only [List.length_append, List.length_singleton, Nat.add_zero, Nat.add_sub_cancel, Nat.sub_zero] at this ⊢
    rw [this]
    simp [gd]
  | succ i ih =>
    have hn : 0 < n := by
      rcases Nat.eq_zero_or_pos n with e | e
      · subst e; simp [digs_zero] at h
      · exact e
    rw [digs_pos hn] at h ⊢
    simp only [List.length_append, List.length_singleton] at h ⊢
    have h' : i < (digs (n / 256)).length := by omega
    rw [show (digs (n / 256)).length + 1 - 1 - (i + 1) = (digs (n / 256)).length - 1 - i by omega, gd_app_l (by omega), ih h', Nat.div_div_eq_div_mul, Nat.pow_succ, Nat.mul_comm]
theorem bv_at' {s : List Nat} {i : Nat} (h : i < s.length) : (bv s)[i]? = some (.int .u8 ((gd s i : Nat) : Int)) := bv_at h

/-- bytes that a call has made: a block of their own -/
structure Made (w w' : World) (g : Nat) (t : List Nat) : Prop where
  room : Rm w' g t
  new : w.heap.size ≤ g
  below : Below w.heap.size w w'
theorem Rm.view {w : World} {g : Nat} {t : List Nat} (h : Rm w g t) (hb : ∀ x ∈ t, x < 256) (hl : t.length ≤ 281474976710656) : Vw w (some ⟨g, 0, none⟩) g 0 t :=
  ⟨fun _ => rfl, fun i hi => by
    rw [Nat.zero_add, cell_of_row _ _ _ _ 5 _ h]
    simpa using bv_at hi, fun i _ => by have := gd_lt hb i; omega, hl⟩
theorem Rm.row {w : World} {g : Nat} {t : List Nat} (h : Rm w g t) : w.rowIs g 5 t.length (fun i => .int .u8 ((gd t i : Nat) : Int)) :=
  ⟨_, h, by simp [bv_len], fun i hi => by simpa using bv_at hi⟩
theorem Rm.of_row {w : World} {g n : Nat} {f : Nat → Value} {t : List Nat} (h : w.rowIs g 5 n f) (hl : t.length = n) (hf : ∀ i, i < n → f i = .int .u8 ((gd t i : Nat) : Int)) : Rm w g t := by
  obtain ⟨c, hc, hs, hi⟩ := h
  unfold Rm
  have e : c = (bv t).toArray := by
    apply Array.ext_getElem?
    intro i
    by_cases q : i < n
    · rw [hi i q, hf i q]
      simpa using (bv_at (s := t) (by omega)).symm
    · rw [Array.getElem?_eq_none (by omega), Array.getElem?_eq_none (by simp [bv_len]; omega)]
  rw [← e]
  exact hc

set_option maxRecDepth 100000 in
set_option maxHeartbeats 800000 in
theorem digitsOf_any (w : World) (n : Nat) (hn : n < 18446744073709551616) :
    Calls Try.prog 81 #[.int .u64 n] w fun e w' => e = .returned (.slice (some ⟨w.heap.size, 0, none⟩) (digs n).length (digs n).length) ∧ Made w w' w.heap.size (digs n) := by
  have K := digitCount_any w n hn
  have HL : Hid ((digs n).length ≤ 8) := digs_len_le (by omega)
  obtain ⟨k, ek⟩ : ∃ k, k = (digs n).length := ⟨_, rfl⟩
  have HK : Hid (k = (digs n).length) := ek
  rw [← ek] at K ⊢
  have h8 : k ≤ 8 := by have := HL.out; omega
  clear ek
  have hmk := run_make_row' (P := Try.prog) 22 5 (.int .u8 0) 1 Try.underlying22 Try.info5 rfl .i64 .i64 k (by omega) (by omega)
  go_enter Try.func81, Try.ntmps81
  go_wp2_with (go_at_call 80; refine K.mono ?_; rintro e w' ⟨rfl, rfl⟩)
  go_loopg [0, 4] k (fun gg u i wr => ∃ (m j : Nat) (f : Nat → Nat), j ≤ k ∧ gg = k - j ∧ m = n / 256 ^ j ∧ u = .int .u64 m ∧ i = .int .i64 ((k : Int) - 1 - j) ∧ Below w'.heap.size w' wr ∧ wr.rowIs w'.heap.size 5 k (fun i => .int .u8 (f i : Nat)) ∧ ∀ i, i < j → f (k - 1 - i) = n / 256 ^ i % 256)
  case atStart =>
    refine ⟨n, 0, fun _ => 0, Nat.zero_le _, rfl, by simp, rfl, by simp, (Below.refl _ _).alloc (Nat.le_refl _) _, World.rowIs_made w' _ k 5, fun i hi => by omega⟩
  case round =>
    obtain ⟨m, j, f, hj, rfl, hm, rfl, ei, hb, hr, hd⟩ := hrel
    have HM : Hid (m = n / 256 ^ j) := hm
    have m64 : m ≤ n := by rw [hm]; exact Nat.div_le_self _ _
    clear hm
    by_cases h0 : j < k
    · obtain ⟨q, hq⟩ : ∃ q : Nat, (k : Int) - 1 - j = q := ⟨k - 1 - j, by omega⟩
      rw [hq] at ei
      subst ei
      have q1 : ¬ (q : Int) < 0 := by omega
      have q2 : q < k := by omega
      have g1 := hr.cell q2
      have g2 := hr.frozen q
      have HX : Hid (Below w'.heap.size w' (wr.setCell ⟨w'.heap.size, q, none⟩ (.int .u8 ((m : Int) % 256))) ∧ (wr.setCell ⟨w'.heap.size, q, none⟩ (.int .u8 ((m : Int) % 256))).rowIs w'.heap.size 5 k (fun i => .int .u8 ((if i = q then m % 256 else f i : Nat) : Int))) :=
        ⟨hb.setCell (Nat.le_refl _) _, (hr.set q _).congr (fun i _ => by
          by_cases e : i = q
          · rw [if_pos e, if_pos e]; simp
          · rw [if_neg e, if_neg e])⟩
      have HQ : Hid ((k : Int) - 1 - j = q) := hq
      have HD : Hid (∀ i, i < j → f (k - 1 - i) = n / 256 ^ i % 256) := hd
      clear hb hr hq hd
      go_wp2_with fail
      go_roundg (k - (j + 1))
      case measure => omega
      case rel =>
        have hq := HQ.out
        refine ⟨m / 256, j + 1, _, h0, rfl, ?_, by go_num, ?_, HX.out.1, HX.out.2, fun i hi => ?_⟩
        · rw [HM.out, Nat.div_div_eq_div_mul, Nat.pow_succ]
        · congr 1; omega
        · by_cases e : i = j
          · subst e
            rw [if_pos (by omega), HM.out]
          · rw [if_neg (by omega)]
            exact HD.out i (by omega)
    · have ej : j = k := by omega
      subst ej
      have e1 : (j : Int) - 1 - j = -1 := by omega
      rw [e1] at ei
      subst ei
      have HX : Hid (Made w' wr w'.heap.size (digs n)) := ⟨Rm.of_row hr HK.out.symm (fun i hi => by
        have h := hd (j - 1 - i) (by omega)
        have h2 := digs_lastd (n := n) (i := j - 1 - i) (by have := HK.out; omega)
        rw [← HK.out, show j - 1 - (j - 1 - i) = i by omega] at h2
        rw [show j - 1 - (j - 1 - i) = i by omega] at h
        rw [h, h2]), Nat.le_refl _, hb⟩
      clear hb hr hd
      go_wp2_with fail
      go_ret
      exact ⟨rfl, HX.out⟩
end Go.Proofs.Ytadcbhjmbgenbaa

/-
  writeHead.
-/
namespace Go.Proofs.Ytadcbhjmbgenbaa
open Go.RowKit

theorem splice_len {t s : List Nat} {K : Nat} (h : K + s.length ≤ t.length) : (splice t K s).length = t.length := length_splice t K s h
theorem splice_gd {t s : List Nat} {K i : Nat} (h : K + s.length ≤ t.length) : gd (splice t K s) i = if K ≤ i ∧ i < K + s.length then gd s (i - K) else gd t i := by
  unfold splice
  have lk : (t.take K).length = K := by simp; omega
  by_cases h1 : i < K
  · rw [gd_app_l (by omega), if_neg (by omega)]
    unfold gd
    rw [List.getD_eq_getElem?_getD, List.getD_eq_getElem?_getD, List.getElem?_take, if_pos h1]
  · obtain ⟨j, rfl⟩ : ∃ j, i = K + j := ⟨i - K, by omega⟩
    have e1 := gd_app_r (s := t.take K) (t := s ++ t.drop (K + s.length)) (i := j)
    rw [lk] at e1
    rw [e1]
    by_cases h2 : j < s.length
    · rw [gd_app_l h2, if_pos (by omega), Nat.add_sub_cancel_left]
    · obtain ⟨m, rfl⟩ : ∃ m, j = s.length + m := ⟨j - s.length, by omega⟩
      rw [gd_app_r, if_neg (by omega)]
      unfold gd
      rw [List.getD_eq_getElem?_getD, List.getD_eq_getElem?_getD, List.getElem?_drop, Nat.add_assoc]
theorem splice_splice {t s u : List Nat} {K L : Nat} (hL : L = K + u.length) (h : L + s.length ≤ t.length) : splice (splice t L s) K u = splice t K (u ++ s) := by
  have l1 : (splice t L s).length = t.length := splice_len h
  have l3 : (u ++ s).length = u.length + s.length := List.length_append
  apply ext_gd
  · rw [splice_len (by omega), l1, splice_len (by omega)]
  · intro i _
    rw [splice_gd (by omega), splice_gd (by omega), splice_gd (by omega), l3]
    by_cases h1 : K ≤ i ∧ i < K + u.length
    · rw [if_pos h1, if_pos (by omega), gd_app_l (by omega)]
    · rw [if_neg h1]
      by_cases h2 : L ≤ i ∧ i < L + s.length
      · rw [if_pos h2, if_pos (by omega)]
        obtain ⟨m, rfl⟩ : ∃ m, i = K + (u.length + m) := ⟨i - K - u.length, by omega⟩
        rw [Nat.add_sub_cancel_left, gd_app_r]
        congr 1
        omega
      · rw [if_neg h2, if_neg (by omega)]
theorem vw_one (w : World) (x : Nat) (hx : x < 256) : Vw (w.alloc (.cells #[.int .u8 (x : Int)] 5)) (some ⟨w.heap.size, 0, none⟩) w.heap.size 0 [x] := by
  refine ⟨fun _ => rfl, fun i hi => ?_, fun i hi => ?_, by simp⟩
  · have : i = 0 := by simp at hi; omega
    subst this
    rw [cell_of_row _ _ _ _ 5 _ (heap_alloc_new w _)]
    rfl
  · have : i = 0 := by simp at hi; omega
    subst this
    simp [gd]
    omega

set_option maxRecDepth 100000 in
set_option maxHeartbeats 800000 in
theorem writeHead_any (w : World) (g L K N n base : Nat) (t : List Nat) (hr : Rm w g t) (hN : t.length = N) (hLN : L ≤ N) (hN63 : N ≤ 9223372036854775807) (hn : n ≤ 1048576) (hb : base ≤ 192) (hL : L = K + (hdr base n).length) :
    Calls Try.prog 71 #[.slice (some ⟨g, 0, none⟩) L N, .int .i64 n, .int .u8 base] w fun e w' =>
      e = .returned (.slice (some ⟨g, 0, none⟩) K N) ∧ Rm w' g (splice t K (hdr base n)) ∧ Turn (fun i => i = g) w w' := by
  by_cases h : n < 56
  · have eh : hdr base n = [base + n] := by unfold hdr; rw [if_pos h]
    rw [eh] at hL ⊢
    have i1 : (n : Int) < 56 := by omega
    have e2 : (n : Int) % 256 = n := by omega
    have ec : ((base + n : Nat) : Int) = (base : Int) + n := by omega
    have t0 : Turn (fun i => i = g) w (w.alloc (.cells #[.int .u8 ((base : Int) + n)] 5)) := Turn.alloc w _
    have K1 := writeEnd_any (w.alloc (.cells #[.int .u8 ((base + n : Nat) : Int)] 5)) g L K N t (hr.below ((Below.refl _ _).alloc (Nat.le_refl _) _)) hN hLN hN63 _ _ _ 1 [base + n] (vw_one w (base + n) (by omega)) hL
    rw [ec] at K1
    have HT : Hid (Turn (fun i => i = g) w (w.alloc (.cells #[.int .u8 ((base : Int) + n)] 5))) := t0
    clear t0 hL hN hLN hr ec
    go_enter Try.func71, Try.ntmps71
    go_wp2_with (go_at_call 70; refine K1.mono ?_; rintro e w1 ⟨rfl, hr1, ht1⟩; have HR : Hid (Rm w1 g (splice t K [base + n]) ∧ Turn (fun i => i = g) w w1) := ⟨hr1, HT.out.trans ht1 (fun i q => Or.inl q)⟩; clear hr1 ht1)
    go_ret
    exact ⟨rfl, HR.out⟩
  · have eh : hdr base n = (base + 55 + (digs n).length) :: digs n := by unfold hdr; rw [if_neg h]
    have i1 : ¬ (n : Int) < 56 := by omega
    have l3 : (digs n).length ≤ 3 := digs_len_le (by omega)
    have K0 := digitsOf_any w n (by omega)
    have HH : Hid (Rm w g t ∧ t.length = N ∧ L ≤ N ∧ L = K + 1 + (digs n).length ∧ ∀ x ∈ digs n, x < 256) := ⟨hr, hN, hLN, by rw [hL, eh]; simp; omega, digs_lt n⟩
    have HE : Hid (hdr base n = (base + 55 + (digs n).length) :: digs n) := eh
    obtain ⟨k, ek⟩ : ∃ k, k = (digs n).length := ⟨_, rfl⟩
    have HKK : Hid (k = (digs n).length) := ek
    rw [← ek] at K0 l3
    clear hr hN hLN hL eh ek
    have hw : g < w.heap.size := HH.out.1.lt
    go_enter Try.func71, Try.ntmps71
    go_wp2_with (go_at_call 81; refine K0.mono ?_; rintro e w1 ⟨rfl, hm1⟩)
    have K1 := writeEnd_any w1 g L (K + 1) N t (HH.out.1.below hm1.below) HH.out.2.1 HH.out.2.2.1 hN63 _ _ _ k (digs n) (hm1.room.view HH.out.2.2.2.2 (by have := HKK.out; omega)) HH.out.2.2.2.1
    rw [← HKK.out] at K1
    have t1 : Turn (fun i => i = g) w w1 := Turn.of_below hm1.below
    have HT : Hid (Turn (fun i => i = g) w w1) := t1
    clear t1 hm1
    go_wp2_with (go_at_call_of 70 (Value.slice (some ⟨w.heap.size, 0, none⟩) k k); refine K1.mono ?_; rintro e w2 ⟨rfl, hr2, ht2⟩)
    have t2 : Turn (fun i => i = g) w w2 := HT.out.trans ht2 (fun i q => Or.inl q)
    have q1 := HH.out.2.1
    have q2 := HH.out.2.2.1
    have q3 := HH.out.2.2.2.1
    have q4 : (splice t (K + 1) (digs n)).length = N := by rw [splice_len (by omega)]; exact q1
    have q5 : K + 1 ≤ N := by omega
    have HQ : Hid (K + 1 + (digs n).length ≤ t.length) := by rw [← q3, q1]; exact q2
    clear q1 q2 q3
    have K2 := writeEnd_any (w2.alloc (.cells #[.int .u8 ((base + 55 + k : Nat) : Int)] 5)) g (K + 1) K N (splice t (K + 1) (digs n)) (hr2.below ((Below.refl _ _).alloc (Nat.le_refl _) _)) q4 q5 hN63 _ _ _ 1 [base + 55 + k] (vw_one w2 (base + 55 + k) (by omega)) (by simp)
    have ec : ((base + 55 + k : Nat) : Int) = (base : Int) + 56 - 1 + k := by omega
    rw [ec] at K2
    have e4 : (k : Int) % 256 = k := by omega
    have HT2 : Hid (Turn (fun i => i = g) w (w2.alloc (.cells #[.int .u8 ((base : Int) + 56 - 1 + k)] 5))) := t2.trans (Turn.alloc w2 _ (F := fun i => i = g)) (fun i q => Or.inl q)
    clear hr2 ht2 t2 HT ec q4 q5
    go_wp2_with (go_at_call 70; refine K2.mono ?_; rintro e w3 ⟨rfl, hr3, ht3⟩; have HR : Hid (Rm w3 g (splice t K (hdr base n)) ∧ Turn (fun i => i = g) w w3) := ⟨by rw [HE.out, ← HKK.out]; rw [splice_splice (by simp) HQ.out] at hr3; exact hr3, HT2.out.trans ht3 (fun i q => Or.inl q)⟩; clear hr3 ht3)
    go_ret
    exact ⟨rfl, HR.out⟩
end Go.Proofs.Ytadcbhjmbgenbaa
