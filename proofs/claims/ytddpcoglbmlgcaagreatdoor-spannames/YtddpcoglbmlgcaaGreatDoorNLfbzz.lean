import Derived.Test.YtddpcoglbmlgcaaGreatDoorNLfazz
/-
  The program's writing from the end on: writeEnd, digitsOf, writeHead.
-/
namespace Go.Proofs.YtddpcoglbmlgcaaGreatDoor
open Go.RowKit
/-- a block of bytes -/
def Rm (w : World) (g : Nat) (t : List Nat) : Prop := w.heap[g]? = some (.cells (bv t).toArray 5 (0, 0))
theorem Rm.turn {w w' : World} {g : Nat} {t : List Nat} {F : Nat → Prop} (h : Rm w g t) (k : Turn F w w') (hg : ¬ F g) : Rm w' g t := by
  have hl : g < w.heap.size := (Array.getElem?_eq_some_iff.1 h).1
  exact (k.block g hl hg).trans h
theorem Rm.lt {w : World} {g : Nat} {t : List Nat} (h : Rm w g t) : g < w.heap.size := (Array.getElem?_eq_some_iff.1 h).1
theorem Rm.below {w w' : World} {g : Nat} {t : List Nat} (h : Rm w g t) (k : Below w.heap.size w w') : Rm w' g t := (k.block g h.lt).trans h
theorem bv_splice (t s : List Nat) (o : Nat) : bv (splice t o s) = splice (bv t) o (bv s) := by simp [splice, bv, List.map_take, List.map_drop]
set_option maxRecDepth 100000 in
set_option maxHeartbeats 800000 in
theorem writeEnd_any (w : World) (g L K N : Nat) (t : List Nat) (hr : Rm w g t) (hN : t.length = N) (hLN : L ≤ N) (hN63 : N ≤ 9223372036854775807) (a : Option Addr) (b off c : Nat) (s : List Nat) (hv : Vw w a b off s) (hL : L = K + s.length) :
    Calls Tryz.prog 120 #[.slice (some ⟨g, 0, none⟩) L N, .slice a s.length c] w fun e w' =>
      e = .returned (.slice (some ⟨g, 0, none⟩) K N) ∧ Rm w' g (splice t K s) ∧ Turn (fun i => i = g) w w' := by
  have j1 := slice_upto (some ⟨g, 0, none⟩) L N K (by omega)
  have j2 := slice_from (some ⟨g, 0, none⟩) L N K (by omega)
  have es : L - K = s.length := by omega
  rw [es] at j2
  have hs : s.length ≤ L := by omega
  have e1 : (L : Int) - (s.length : Int) = (K : Int) := by omega
  have hK : K ≤ 9223372036854775807 := by omega
  have HH : Hid (t.length = N ∧ L ≤ N ∧ L = K + s.length ∧ L - K = s.length ∧ Rm w g t ∧ Vw w a b off s) := ⟨hN, hLN, hL, es, hr, hv⟩
  have hsl : s.length ≤ 9223372036854775807 := by omega
  have hLl : L ≤ 9223372036854775807 := by omega
  obtain ⟨k, ek⟩ : ∃ k, k = s.length := ⟨_, rfl⟩
  have HK : Hid (k = s.length) := ek
  rw [← ek] at j2 e1 hsl hs ⊢
  clear hN hLN hL es hr hv ek
  by_cases h0 : k = 0
  · subst h0
    have eK : K = L := by have := HH.out.2.2.1; have := HK.out; omega
    subst eK
    generalize behind (some ⟨g, 0, none⟩) N K = bh at j2
    clear e1
    go_enter Tryz.func120, Tryz.ntmps120
    go_wp2_with (refine wpList_copy_nothing (by rfl) (.tmp 16) (.tmp 17) 33 33 (by rfl) 5 Tryz.underlying33 info5size _ _ _ _ _ _ (by rfl) (by rfl) (by simp) ?_)
    go_ret
    have e0 : s = [] := List.eq_nil_of_length_eq_zero HK.out.symm
    refine ⟨rfl, ?_, Turn.refl _ _⟩
    rw [e0]
    simpa [splice] using HH.out.2.2.2.2.1
  · have hb : behind (some ⟨g, 0, none⟩) N K = some ⟨g, K, none⟩ := by
      unfold behind
      rw [if_neg (by have := HH.out.1; have := HH.out.2.1; have := HH.out.2.2.1; have := HK.out; omega)]
      simp [add_flat]
    rw [hb] at j2
    have ha := HH.out.2.2.2.2.2.at_ (by have := HK.out; omega)
    subst ha
    have hsrc : ∀ j v, (bv s)[j]? = some v → w.cell? ((⟨b, off, none⟩ : Addr).add j) = some v := fun j v hj => by
      have hj2 : j < s.length := by
        have := (List.getElem?_eq_some_iff.1 hj).1
        rwa [bv_len] at this
      rw [bv_at hj2] at hj
      rw [Go.WideShapes.add_plain, HH.out.2.2.2.2.2.cell j hj2]
      exact hj
    have hone : ∀ v ∈ bv s, v.oneCell' = true := fun v hv => by
      obtain ⟨x, _, rfl⟩ := List.mem_map.1 hv
      rfl
    have hn1 : (bv s).length = Nat.min k k := by rw [bv_len, ← HK.out]; simp
    have hft : K + (bv s).length ≤ (bv t).toArray.size := by
      rw [bv_len, List.size_toArray, bv_len]
      have := HH.out.1
      have := HH.out.2.1
      have := HH.out.2.2.1
      omega
    have hg := HH.out.2.2.2.2.1
    unfold Rm at hg
    have H2 : Hid ((∀ j v, (bv s)[j]? = some v → w.cell? ((⟨b, off, none⟩ : Addr).add j) = some v) ∧ (∀ v ∈ bv s, v.oneCell' = true) ∧ (bv s).length = Nat.min k k ∧ K + (bv s).length ≤ (bv t).toArray.size ∧ w.heap[g]? = some (.cells (bv t).toArray 5 (0, 0))) := ⟨hsrc, hone, hn1, hft, hg⟩
    clear hsrc hone hn1 hft hg
    go_enter Tryz.func120, Tryz.ntmps120
    go_wp2_with (refine wpList_copy_own (by rfl) (.tmp 16) (.tmp 17) 33 33 (by rfl) 5 Tryz.underlying33 info5size g K k (N - K) ⟨b, off, none⟩ k c (by rfl) (by rfl) _ 5 H2.out.2.2.2.2 (bv s) H2.out.2.2.1 H2.out.1 H2.out.2.2.2.1 H2.out.2.1 ?_)
    go_ret
    refine ⟨rfl, ?_, Turn.setRow w g _ rfl⟩
    unfold Rm
    rw [bv_splice]
    simp only [splice]
    exact setRow_heap _ _ _ _ _ _ H2.out.2.2.2.2
theorem digs_lastd {n i : Nat} (h : i < (digs n).length) : gd (digs n) ((digs n).length - 1 - i) = n / 256 ^ i % 256 := by
  induction i generalizing n with
  | zero =>
    have hn : 0 < n := by
      rcases Nat.eq_zero_or_pos n with e | e
      · subst e; simp [digs_zero] at h
      · exact e
    rw [digs_pos hn]
    have := gd_app_r (s := digs (n / 256)) (t := [n % 256]) (i := 0)
    simp only [List.length_append, List.length_singleton, Nat.add_zero, Nat.add_sub_cancel, Nat.sub_zero] at this ⊢
    rw [this]
    simp [gd]
  | succ i ih =>
    have hn : 0 < n := by
      rcases Nat.eq_zero_or_pos n with e | e
      · subst e; simp [digs_zero] at h
      · exact e
    rw [digs_pos hn] at h ⊢
    simp only [List.length_append, List.length_singleton] at h ⊢
    have h' : i < (digs (n / 256)).length := by omega
    rw [show (digs (n / 256)).length + 1 - 1 - (i + 1) = (digs (n / 256)).length - 1 - i by omega, gd_app_l (by omega), ih h', Nat.div_div_eq_div_mul, Nat.pow_succ, Nat.mul_comm]
theorem bv_at' {s : List Nat} {i : Nat} (h : i < s.length) : (bv s)[i]? = some (.int .u8 ((gd s i : Nat) : Int)) := bv_at h
/-- bytes that a call has made: a block of their own -/
structure Made (w w' : World) (g : Nat) (t : List Nat) : Prop where
  room : Rm w' g t
  new : w.heap.size ≤ g
  below : Below w.heap.size w w'
theorem Rm.view {w : World} {g : Nat} {t : List Nat} (h : Rm w g t) (hb : ∀ x ∈ t, x < 256) (hl : t.length ≤ 281474976710656) : Vw w (some ⟨g, 0, none⟩) g 0 t :=
  ⟨fun _ => rfl, fun i hi => by
    rw [Nat.zero_add, cell_of_row _ _ _ _ 5 _ h]
    simpa using bv_at hi, fun i _ => by have := gd_lt hb i; omega, hl⟩
theorem Rm.row {w : World} {g : Nat} {t : List Nat} (h : Rm w g t) : w.rowIs g 5 t.length (fun i => .int .u8 ((gd t i : Nat) : Int)) :=
  ⟨_, h, by simp [bv_len], fun i hi => by simpa using bv_at hi⟩
theorem Rm.of_row {w : World} {g n : Nat} {f : Nat → Value} {t : List Nat} (h : w.rowIs g 5 n f) (hl : t.length = n) (hf : ∀ i, i < n → f i = .int .u8 ((gd t i : Nat) : Int)) : Rm w g t := by
  obtain ⟨c, hc, hs, hi⟩ := h
  unfold Rm
  have e : c = (bv t).toArray := by
    apply Array.ext_getElem?
    intro i
    by_cases q : i < n
    · rw [hi i q, hf i q]
      simpa using (bv_at (s := t) (by omega)).symm
    · rw [Array.getElem?_eq_none (by omega), Array.getElem?_eq_none (by simp [bv_len]; omega)]
  rw [← e]
  exact hc
set_option maxRecDepth 100000 in
set_option maxHeartbeats 800000 in
theorem digitsOf_any (w : World) (n : Nat) (hn : n < 18446744073709551616) :
    Calls Tryz.prog 147 #[.int .u64 n] w fun e w' => e = .returned (.slice (some ⟨w.heap.size, 0, none⟩) (digs n).length (digs n).length) ∧ Made w w' w.heap.size (digs n) := by
  have K := digitCount_any w n hn
  have HL : Hid ((digs n).length ≤ 8) := digs_len_le (by omega)
  obtain ⟨k, ek⟩ : ∃ k, k = (digs n).length := ⟨_, rfl⟩
  have HK : Hid (k = (digs n).length) := ek
  rw [← ek] at K ⊢
  have h8 : k ≤ 8 := by have := HL.out; omega
  clear ek
  have hmk := run_make_row' (P := Tryz.prog) 33 5 (.int .u8 0) 1 Tryz.underlying33 Tryz.info5 rfl .i64 .i64 k (by omega) (by omega)
  go_enter Tryz.func147, Tryz.ntmps147
  go_wp2_with (go_at_call 146; refine K.mono ?_; rintro e w' ⟨rfl, rfl⟩)
  go_loopg [0, 4] k (fun gg u i wr => ∃ (m j : Nat) (f : Nat → Nat), j ≤ k ∧ gg = k - j ∧ m = n / 256 ^ j ∧ u = .int .u64 m ∧ i = .int .i64 ((k : Int) - 1 - j) ∧ Below w'.heap.size w' wr ∧ wr.rowIs w'.heap.size 5 k (fun i => .int .u8 (f i : Nat)) ∧ ∀ i, i < j → f (k - 1 - i) = n / 256 ^ i % 256)
  case atStart =>
    refine ⟨n, 0, fun _ => 0, Nat.zero_le _, rfl, by simp, rfl, by simp, (Below.refl _ _).alloc (Nat.le_refl _) _, World.rowIs_made w' _ k 5, fun i hi => by omega⟩
  case round =>
    obtain ⟨m, j, f, hj, rfl, hm, rfl, ei, hb, hr, hd⟩ := hrel
    have HM : Hid (m = n / 256 ^ j) := hm
    have m64 : m ≤ n := by rw [hm]; exact Nat.div_le_self _ _
    clear hm
    by_cases h0 : j < k
    · obtain ⟨q, hq⟩ : ∃ q : Nat, (k : Int) - 1 - j = q := ⟨k - 1 - j, by omega⟩
      rw [hq] at ei
      subst ei
      have q1 : ¬ (q : Int) < 0 := by omega
      have q2 : q < k := by omega
      have g1 := hr.cell q2
      have g2 := hr.frozen q
      have HX : Hid (Below w'.heap.size w' (wr.setCell ⟨w'.heap.size, q, none⟩ (.int .u8 ((m : Int) % 256))) ∧ (wr.setCell ⟨w'.heap.size, q, none⟩ (.int .u8 ((m : Int) % 256))).rowIs w'.heap.size 5 k (fun i => .int .u8 ((if i = q then m % 256 else f i : Nat) : Int))) :=
        ⟨hb.setCell (Nat.le_refl _) _, (hr.set q _).congr (fun i _ => by
          by_cases e : i = q
          · rw [if_pos e, if_pos e]; simp
          · rw [if_neg e, if_neg e])⟩
      have HQ : Hid ((k : Int) - 1 - j = q) := hq
      have HD : Hid (∀ i, i < j → f (k - 1 - i) = n / 256 ^ i % 256) := hd
      clear hb hr hq hd
      go_wp2_with fail
      go_roundg (k - (j + 1))
      case measure => omega
      case rel =>
        have hq := HQ.out
        refine ⟨m / 256, j + 1, _, h0, rfl, ?_, by go_num, ?_, HX.out.1, HX.out.2, fun i hi => ?_⟩
        · rw [HM.out, Nat.div_div_eq_div_mul, Nat.pow_succ]
        · congr 1; omega
        · by_cases e : i = j
          · subst e
            rw [if_pos (by omega), HM.out]
          · rw [if_neg (by omega)]
            exact HD.out i (by omega)
    · have ej : j = k := by omega
      subst ej
      have e1 : (j : Int) - 1 - j = -1 := by omega
      rw [e1] at ei
      subst ei
      have HX : Hid (Made w' wr w'.heap.size (digs n)) := ⟨Rm.of_row hr HK.out.symm (fun i hi => by
        have h := hd (j - 1 - i) (by omega)
        have h2 := digs_lastd (n := n) (i := j - 1 - i) (by have := HK.out; omega)
        rw [← HK.out, show j - 1 - (j - 1 - i) = i by omega] at h2
        rw [show j - 1 - (j - 1 - i) = i by omega] at h
        rw [h, h2]), Nat.le_refl _, hb⟩
      clear hb hr hd
      go_wp2_with fail
      go_ret
      exact ⟨rfl, HX.out⟩
end Go.Proofs.YtddpcoglbmlgcaaGreatDoor
