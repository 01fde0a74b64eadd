/-
  PathUnpacks: the law.
-/
import Derived.Test.YtdjbideobdaamaaRUp
import Derived.Test.YtdjbideobdaamaaPrt
namespace Go.Proofs.Ytdjbideobdaamaa
open Go.RowKit

theorem Ans.formE {w w' : World} {v : Value} {s : List Nat} (h : Ans w w' v s) : ∃ a n c, v = .slice a n c := by
  obtain ⟨a, c, e⟩ := h.form
  exact ⟨a, _, c, e⟩
theorem Vb.formE {w : World} {v : Value} {s : List Nat} (h : Vb w v s) : ∃ a n c, v = .slice a n c := by
  obtain ⟨a, b, off, c, e, _⟩ := h
  exact ⟨a, _, c, e⟩
theorem Now.only {w wk : World} {T : List (Value × List Nat)} {I : List (Nat × Nat × Value)} {v : Value} {s : List Nat} (h : Now w wk T I) (hv : Vb wk v s) : Now w wk [(v, s)] I :=
  ⟨h.below, fun p hp => by
    simp only [List.mem_cons, List.not_mem_nil, or_false] at hp
    rw [hp]
    exact hv, h.is⟩
/-- the last byte's lowest bit turned -/
def lt1 (s : List Nat) : List Nat := s.set (s.length - 1) (gd s (s.length - 1) ^^^ 1)
theorem lt1_len (s : List Nat) : (lt1 s).length = s.length := by simp [lt1]
theorem lt1_nil {s : List Nat} (h : s.length = 0) : lt1 s = s := by
  have : s = [] := List.eq_nil_of_length_eq_zero h
  subst this
  rfl
/-- Roomy's list with its last byte written anew -/
theorem room_last {w : World} {g cap : Nat} {s : List Nat} (h : Room w g cap s) (hl : s.length ≤ 140737488351232) (h0 : 0 < s.length) : Vb (w.setCell ⟨g, s.length - 1, none⟩ (.int .u8 ((gd s (s.length - 1) ^^^ 1 : Nat) : Int))) (.slice (some ⟨g, 0, none⟩) s.length cap) (lt1 s) := by
  have hs := str_pre h.str
  have hb := gd_lt hs.ok.2 (s.length - 1)
  have := (str_set hs (s.length - 1) (gd s (s.length - 1) ^^^ 1) (by omega) (Nat.xor_lt_two_pow (n := 8) hb (by decide))).vb (s := lt1 s) (by rw [lt1_len]; exact hl)
  exact this
theorem Room.cell {w : World} {g cap : Nat} {s : List Nat} (h : Room w g cap s) (h0 : 0 < s.length) : w.cell? ⟨g, s.length - 1, none⟩ = some (.int .u8 ((gd s (s.length - 1) : Nat) : Int)) ∧ w.frozen? ⟨g, s.length - 1, none⟩ = false ∧ gd s (s.length - 1) < 256 := by
  have hs := str_pre h.str
  have := hs.own.cells (g := g) rfl (s.length - 1) _ (bv_at (by omega))
  rw [add_flat] at this
  exact ⟨this, hs.own.frozenAt _, gd_lt hs.ok.2 _⟩

set_option maxRecDepth 100000 in
set_option maxHeartbeats 1600000 in
theorem punpacks_any (w : World) (v : Value) (s : List Nat) (hv : Vb w v s) :
    Calls Try.prog 5 #[v] w fun e w' => e = .returned (.bool true) ∧ Below w.heap.size w w' := by
  obtain ⟨a, c, ev⟩ : ∃ a c, v = .slice a s.length c := by
    obtain ⟨a, b, off, c, rfl, _⟩ := hv
    exact ⟨a, c, rfl⟩
  subst ev
  have hl : s.length ≤ 140737488351232 := by
    obtain ⟨_, _, _, _, _, _, _, _, q⟩ := hv
    exact q
  have HV : Hid (Vb w (.slice a s.length c) s) := hv
  have HL : Hid (s.length ≤ 140737488351232 ∧ (lt1 s).length = s.length) := ⟨hl, lt1_len s⟩
  obtain ⟨n, en⟩ : ∃ n, n = s.length := ⟨_, rfl⟩
  have HN : Hid (n = s.length) := en
  rw [← en] at HV hl ⊢
  clear hv en
  go_enter Try.func5, Try.ntmps5
  go_wp2_with fail
  refine (roomy_vb HV.out).mono ?_
  rintro e w1 ⟨g, cap, rfl, r1, hg, b1⟩
  rw [← HN.out]
  have HR : Hid (Room w1 g cap s ∧ w.heap.size ≤ g ∧ g < w1.heap.size) := ⟨r1, hg, r1.lt⟩
  have H1 : Hid (Now w w1 [(.slice (some ⟨g, 0, none⟩) n cap, s), (.slice a n c, s)] []) := ((Now.start HV.out).keep b1).add (by
    have := r1.vb HL.out.1
    rw [← HN.out] at this
    exact this)
  clear r1 hg b1
  go_wp2_with fail
  refine (unpack_vb (H1.out.vs (.slice (some ⟨g, 0, none⟩) n cap, s) (by simp))).mono ?_
  rintro e w2 ⟨u1, rfl, h2⟩
  obtain ⟨x, hx⟩ : ∃ x, x = upE s := ⟨_, rfl⟩
  obtain ⟨l, hll⟩ : ∃ l, l = upI s := ⟨_, rfl⟩
  have HX : Hid (x = upE s ∧ l = upI s) := ⟨hx, hll⟩
  rw [← hx, ← hll]
  obtain ⟨P, hP⟩ : ∃ P, P = upR s := ⟨_, rfl⟩
  have HP : Hid (P = upR s) := hP
  rw [← hP] at h2
  obtain ⟨a1, n1, c1, rfl⟩ := h2.formE
  have H2 : Hid (Now w w2 _ _ ∧ Room w2 g cap s) := ⟨H1.out.ans h2, HR.out.1.below h2.below⟩
  clear hx h2 H1 hP hll
  go_wp2_with fail
  refine (runpack_vb (H2.out.1.vs (.slice a n c, s) (by simp))).mono ?_
  rintro e w3 ⟨u2, rfl, h3, b3⟩
  rw [← HX.out.1, ← HX.out.2]
  rw [← HP.out] at h3
  obtain ⟨a2, n2, c2, rfl⟩ := h3.formE
  have H3 : Hid (Now w w3 _ _ ∧ Room w3 g cap s) := ⟨(H2.out.1.keep b3).add h3, H2.out.2.below b3⟩
  clear h3 H2 b3
  have lx : (l == l) = true := by simp
  have lx2 : (l != l) = false := by simp
  go_wp2_with fail
  refine (same_yes (H3.out.1.vs (.slice a1 n1 c1, P) (by simp)) (H3.out.1.vs (.slice a2 n2 c2, P) (by simp)) rfl).mono ?_
  rintro e w4 ⟨rfl, h4⟩
  have H4 : Hid (Now w w4 _ _ ∧ Room w4 g cap s) := ⟨H3.out.1.keep h4, H3.out.2.below h4⟩
  have HQ : Hid (w2.heap.size ≤ w4.heap.size ∧ g < w4.heap.size) := ⟨(H4.out.1.is (w1.heap.size, w2.heap.size, .slice a1 n1 c1) (by simp)).2.2, H4.out.2.lt⟩
  clear h4 H3
  go_wp2_with fail
  refine (unpack_vb (H4.out.1.vs (.slice (some ⟨g, 0, none⟩) n cap, s) (by simp))).mono ?_
  rintro e w5 ⟨u3, rfl, h5⟩
  rw [← HX.out.1, ← HX.out.2]
  rw [← HP.out] at h5
  obtain ⟨a3, n3, c3, rfl⟩ := h5.formE
  have H5 : Hid (Now w w5 _ _ ∧ Room w5 g cap s) := ⟨H4.out.1.ans h5, H4.out.2.below h5.below⟩
  clear h5 H4
  go_wp2_with fail
  refine (same_yes (H5.out.1.vs (.slice a3 n3 c3, P) (by simp)) (H5.out.1.vs (.slice a2 n2 c2, P) (by simp)) rfl).mono ?_
  rintro e w6 ⟨rfl, h6⟩
  have H6 : Hid (Now w w6 _ _ ∧ Room w6 g cap s) := ⟨H5.out.1.keep h6, H5.out.2.below h6⟩
  clear h6 H5
  go_wp2_with fail
  have K7 := whole_vb H6.out.2 (H6.out.1.vs (.slice a n c, s) (by simp))
  rw [← HN.out] at K7
  refine K7.mono ?_
  rintro e w7 ⟨rfl, h7⟩
  have H7 : Hid (Now w w7 _ _ ∧ Room w7 g cap s) := ⟨H6.out.1.keep h7, H6.out.2.below h7⟩
  clear h7 H6 K7
  by_cases h0 : 0 < n
  have C7 := H7.out.2.cell (by have := HN.out; omega)
  have V8 := room_last H7.out.2 HL.out.1 (by have := HN.out; omega)
  rw [← HN.out] at C7 V8
  obtain ⟨c7, f7, y7⟩ := C7
  obtain ⟨y, hy⟩ : ∃ y, y = gd s (n - 1) := ⟨_, rfl⟩
  rw [← hy] at c7 y7 V8
  have x7 := u8_xor_nat y 1 y7 (by decide)
  rw [show ((1 : Nat) : Int) = (1 : Int) from rfl] at x7
  have HV8 : Hid (Vb (w7.setCell ⟨g, n - 1, none⟩ (.int .u8 ((y ^^^ 1 : Nat) : Int))) (.slice (some ⟨g, 0, none⟩) n cap) (lt1 s)) := V8
  clear V8 hy
  have i7 : (0 : Int) < (n : Int) := by omega
  go_wp2_with fail
  have H8 : Hid (Now w (w7.setCell ⟨g, n - 1, none⟩ (.int .u8 ((y ^^^ 1 : Nat) : Int))) [(.slice (some ⟨g, 0, none⟩) n cap, lt1 s)] [(w4.heap.size, w5.heap.size, .slice a3 n3 c3), (w1.heap.size, w2.heap.size, .slice a1 n1 c1)]) := (H7.out.1.turn (Turn.setCell w7 ⟨g, n - 1, none⟩ _ (F := fun i => i = g) rfl) HR.out.2.1 (fun p hp => by
    simp only [List.mem_cons, List.not_mem_nil, or_false] at hp
    rcases hp with rfl | rfl
    · exact HQ.out.2
    · exact HR.out.2.2)).add HV8.out
  obtain ⟨w8, hw8⟩ : ∃ z, z = w7.setCell ⟨g, n - 1, none⟩ (.int .u8 ((y ^^^ 1 : Nat) : Int)) := ⟨_, rfl⟩
  rw [← hw8] at H8 ⊢
  clear hw8 HV8 c7 f7 y7 x7 H7 i7
  rotate_left
  have H8 : Hid (Now w w7 [(.slice (some ⟨g, 0, none⟩) n cap, lt1 s)] [(w4.heap.size, w5.heap.size, .slice a3 n3 c3), (w1.heap.size, w2.heap.size, .slice a1 n1 c1)]) := H7.out.1.only (by
    rw [lt1_nil (by have := HN.out; omega)]
    exact H7.out.1.vs (.slice (some ⟨g, 0, none⟩) n cap, s) (by simp))
  have i7 : ¬ (0 : Int) < (n : Int) := by omega
  obtain ⟨w8, hw8⟩ : ∃ z, z = w7 := ⟨_, rfl⟩
  go_wp2_with fail
  rw [← hw8] at H8 ⊢
  clear hw8 H7 i7
  rotate_left
  all_goals (
    clear HR HX HP
    refine (unpack_vb (H8.out.vs (.slice (some ⟨g, 0, none⟩) n cap, lt1 s) (by simp))).mono ?_
    rintro e w9 ⟨u4, rfl, h9⟩
    obtain ⟨y, hy⟩ : ∃ y, y = upE (lt1 s) := ⟨_, rfl⟩
    obtain ⟨l2, hl2⟩ : ∃ l, l = upI (lt1 s) := ⟨_, rfl⟩
    have HY : Hid (y = upE (lt1 s) ∧ l2 = upI (lt1 s)) := ⟨hy, hl2⟩
    rw [← hy, ← hl2]
    obtain ⟨Q, hQ⟩ : ∃ Q, Q = upR (lt1 s) := ⟨_, rfl⟩
    have HQ2 : Hid (Q = upR (lt1 s)) := hQ
    rw [← hQ] at h9
    obtain ⟨a4, n4, c4, rfl⟩ := h9.formE
    have HQ9 : Hid (w5.heap.size ≤ w8.heap.size ∧ w2.heap.size ≤ w8.heap.size) := ⟨(H8.out.is (w4.heap.size, w5.heap.size, .slice a3 n3 c3) (by simp)).2.2, (H8.out.is (w1.heap.size, w2.heap.size, .slice a1 n1 c1) (by simp)).2.2⟩
    have H9 : Hid (Now w w9 _ _) := H8.out.ans h9
    clear hy hQ h9 H8 hl2
    go_wp2_with fail
    refine (runpack_vb (H9.out.vs (.slice (some ⟨g, 0, none⟩) n cap, lt1 s) (by simp))).mono ?_
    rintro e w10 ⟨u5, rfl, h10, b10⟩
    rw [← HY.out.1, ← HY.out.2]
    rw [← HQ2.out] at h10
    obtain ⟨a5, n5, c5, rfl⟩ := h10.formE
    have H10 : Hid (Now w w10 _ _) := (H9.out.keep b10).add h10
    clear h10 H9 b10
    have ly : (l2 == l2) = true := by simp
    go_wp2_with fail
    refine (same_yes (H10.out.vs (.slice a4 n4 c4, Q) (by simp)) (H10.out.vs (.slice a5 n5 c5, Q) (by simp)) rfl).mono ?_
    rintro e w11 ⟨rfl, h11⟩
    have H11 : Hid (Now w w11 _ _) := H10.out.keep h11
    clear h11 H10
    go_wp2_with fail
    refine (apart3 (B := w.heap.size) (H11.out.is (w1.heap.size, w2.heap.size, .slice a1 n1 c1) (by simp)).1 (H11.out.is (w4.heap.size, w5.heap.size, .slice a3 n3 c3) (by simp)).1 (H11.out.is (w8.heap.size, w9.heap.size, .slice a4 n4 c4) (by simp)).1 HQ.out.1 HQ9.out.1 HQ9.out.2 (H11.out.is (w1.heap.size, w2.heap.size, .slice a1 n1 c1) (by simp)).2.1 (H11.out.is (w4.heap.size, w5.heap.size, .slice a3 n3 c3) (by simp)).2.1 (H11.out.is (w8.heap.size, w9.heap.size, .slice a4 n4 c4) (by simp)).2.1).mono ?_
    rintro e w12 ⟨rfl, t12⟩
    have H12 : Hid (Below w.heap.size w w12) := H11.out.below.trans (t12.below (fun i q => q) H11.out.below.size)
    clear t12 H11
    go_wp2_with fail
    refine (fixed_any w12).mono ?_
    rintro e w13 ⟨rfl, h13⟩
    have H13 : Hid (Below w.heap.size w w13) := ch H12.out h13
    clear h13 H12
    go_wp2_with fail
    go_ret
    exact ⟨rfl, H13.out⟩)
end Go.Proofs.Ytdjbideobdaamaa
