/-
  FrameWraps: the law.
-/
import Derived.Test.YtnknhjabebcmeaaFx
namespace Go.Proofs.Ytnknhjabebcmeaa
open Go.RowKit

theorem Ans.formE {w w' : World} {v : Value} {s : List Nat} (h : Ans w w' v s) : ∃ a n c, v = .slice a n c := by
  obtain ⟨a, c, e⟩ := h.form
  exact ⟨a, _, c, e⟩

set_option maxRecDepth 100000 in
set_option maxHeartbeats 3200000 in
theorem fwraps_any (w : World) (v : Value) (s : List Nat) (hv : Vb w v s) :
    Calls Try.prog 4 #[v] w fun e w' => e = .returned (.bool true) ∧ Below w.heap.size w w' := by
  obtain ⟨a, c, ev⟩ : ∃ a c, v = .slice a s.length c := by
    obtain ⟨a, b, off, c, rfl, _⟩ := hv
    exact ⟨a, c, rfl⟩
  subst ev
  have hl : s.length ≤ 140737488351232 := by
    obtain ⟨_, _, _, _, _, _, _, _, q⟩ := hv
    exact q
  have HV : Hid (Vb w (.slice a s.length c) s) := hv
  have HL : Hid (s.length ≤ 140737488351232 ∧ (tw s).length = s.length) := ⟨hl, tw_len s⟩
  obtain ⟨n, en⟩ : ∃ n, n = s.length := ⟨_, rfl⟩
  have HN : Hid (n = s.length) := en
  rw [← en] at HV ⊢
  clear hv en hl
  go_enter Try.func4, Try.ntmps4
  go_wp2_with fail
  refine (roomy_vb HV.out).mono ?_
  rintro e w1 ⟨g, cap, rfl, r1, hg, b1⟩
  rw [← HN.out]
  have HR : Hid (Room w1 g cap s ∧ w.heap.size ≤ g ∧ g < w1.heap.size) := ⟨r1, hg, r1.lt⟩
  have H1 : Hid (Now w w1 [(.slice (some ⟨g, 0, none⟩) n cap, s), (.slice a n c, s)] []) := ((Now.start HV.out).keep b1).add (by
    have := r1.vb HL.out.1
    rw [← HN.out] at this
    exact this)
  clear r1 hg b1
  go_wp2_with fail
  refine (rwrap_vb (H1.out.vs (.slice a n c, s) (by simp))).mono ?_
  rintro e w2 ⟨u2, rfl, h2⟩
  obtain ⟨x, hx⟩ : ∃ x, x = wrE s := ⟨_, rfl⟩
  have HX : Hid (x = wrE s) := hx
  rw [← hx]
  obtain ⟨P, hP⟩ : ∃ P, P = wrR s := ⟨_, rfl⟩
  have HP : Hid (P = wrR s) := hP
  rw [← hP] at h2
  obtain ⟨a2, n2, c2, rfl⟩ := h2.formE
  have H2 : Hid (Now w w2 _ _ ∧ Room w2 g cap s) := ⟨(H1.out.keep h2.below).add h2.vb, HR.out.1.below h2.below⟩
  have HG2 : Hid (g < w2.heap.size) := H2.out.2.lt
  clear hx hP h2 H1
  go_wp2_with fail
  refine (wrap_vb (H2.out.1.vs (.slice (some ⟨g, 0, none⟩) n cap, s) (by simp))).mono ?_
  rintro e w3 ⟨u1, rfl, h3⟩
  rw [← HX.out]
  rw [← HP.out] at h3
  obtain ⟨a1, n1, c1, rfl⟩ := h3.formE
  have H3 : Hid (Now w w3 _ _ ∧ Room w3 g cap s) := ⟨H2.out.1.ans h3, H2.out.2.below h3.below⟩
  have HG3 : Hid (g < w3.heap.size) := H3.out.2.lt
  clear h3 H2
  go_wp2_with fail
  refine (wrap_vb (H3.out.1.vs (.slice (some ⟨g, 0, none⟩) n cap, s) (by simp))).mono ?_
  rintro e w4 ⟨u3, rfl, h4⟩
  rw [← HX.out]
  rw [← HP.out] at h4
  obtain ⟨a3, n3, c3, rfl⟩ := h4.formE
  have H4 : Hid (Now w w4 _ _ ∧ Room w4 g cap s) := ⟨H3.out.1.ans h4, H3.out.2.below h4.below⟩
  clear h4 H3
  go_wp2_with fail
  refine (same_yes (H4.out.1.vs (.slice a1 n1 c1, P) (by simp)) (H4.out.1.vs (.slice a2 n2 c2, P) (by simp)) rfl).mono ?_
  rintro e w5 ⟨rfl, h5⟩
  have H5 : Hid (Now w w5 _ _ ∧ Room w5 g cap s) := ⟨H4.out.1.keep h5, H4.out.2.below h5⟩
  clear h5 H4
  go_wp2_with fail
  refine (same_yes (H5.out.1.vs (.slice a3 n3 c3, P) (by simp)) (H5.out.1.vs (.slice a2 n2 c2, P) (by simp)) rfl).mono ?_
  rintro e w6 ⟨rfl, h6⟩
  have H6 : Hid (Now w w6 _ _ ∧ Room w6 g cap s) := ⟨H5.out.1.keep h6, H5.out.2.below h6⟩
  clear h6 H5
  go_wp2_with fail
  have K7 := whole_vb H6.out.2 (H6.out.1.vs (.slice a n c, s) (by simp))
  rw [← HN.out] at K7
  refine K7.mono ?_
  rintro e w7 ⟨rfl, h7⟩
  have H7 : Hid (Now w w7 _ _ ∧ Room w7 g cap s) := ⟨H6.out.1.keep h7, H6.out.2.below h7⟩
  clear h7 H6 K7
  go_wp2_with fail
  have K8 := turn_vb H7.out.2 HL.out.1
  rw [← HN.out] at K8
  refine K8.mono ?_
  rintro e w8 ⟨rfl, v8, t8⟩
  have H8 : Hid (Now w w8 [(.slice (some ⟨g, 0, none⟩) n cap, tw s)] [(w3.heap.size, w4.heap.size, .slice a3 n3 c3), (w2.heap.size, w3.heap.size, .slice a1 n1 c1)]) := (H7.out.1.turn t8 HR.out.2.1 (fun p hp => by
    simp only [List.mem_cons, List.not_mem_nil, or_false] at hp
    rcases hp with rfl | rfl
    · exact HG3.out
    · exact HG2.out)).add v8
  clear v8 t8 H7 K8 HR HX HP
  go_wp2_with fail
  refine (wrap_vb (H8.out.vs (.slice (some ⟨g, 0, none⟩) n cap, tw s) (by simp))).mono ?_
  rintro e w9 ⟨u4, rfl, h9⟩
  obtain ⟨y, hy⟩ : ∃ y, y = wrE (tw s) := ⟨_, rfl⟩
  have HY : Hid (y = wrE (tw s)) := hy
  rw [← hy]
  obtain ⟨Q, hQ⟩ : ∃ Q, Q = wrR (tw s) := ⟨_, rfl⟩
  have HQ2 : Hid (Q = wrR (tw s)) := hQ
  rw [← hQ] at h9
  obtain ⟨a4, n4, c4, rfl⟩ := h9.formE
  have HQ9 : Hid (w4.heap.size ≤ w8.heap.size ∧ w3.heap.size ≤ w8.heap.size) := ⟨(H8.out.is (w3.heap.size, w4.heap.size, .slice a3 n3 c3) (by simp)).2.2, (H8.out.is (w2.heap.size, w3.heap.size, .slice a1 n1 c1) (by simp)).2.2⟩
  have H9 : Hid (Now w w9 _ _) := H8.out.ans h9
  clear hy hQ h9 H8
  go_wp2_with fail
  refine (rwrap_vb (H9.out.vs (.slice (some ⟨g, 0, none⟩) n cap, tw s) (by simp))).mono ?_
  rintro e w10 ⟨u5, rfl, h10⟩
  rw [← HY.out]
  rw [← HQ2.out] at h10
  obtain ⟨a5, n5, c5, rfl⟩ := h10.formE
  have H10 : Hid (Now w w10 _ _) := (H9.out.keep h10.below).add h10.vb
  clear h10 H9
  go_wp2_with fail
  refine (same_yes (H10.out.vs (.slice a4 n4 c4, Q) (by simp)) (H10.out.vs (.slice a5 n5 c5, Q) (by simp)) rfl).mono ?_
  rintro e w11 ⟨rfl, h11⟩
  have H11 : Hid (Now w w11 _ _) := H10.out.keep h11
  clear h11 H10
  go_wp2_with fail
  refine (apart3 (B := w.heap.size) (H11.out.is (w2.heap.size, w3.heap.size, .slice a1 n1 c1) (by simp)).1 (H11.out.is (w3.heap.size, w4.heap.size, .slice a3 n3 c3) (by simp)).1 (H11.out.is (w8.heap.size, w9.heap.size, .slice a4 n4 c4) (by simp)).1 (Nat.le_refl _) HQ9.out.1 HQ9.out.2 (H11.out.is (w2.heap.size, w3.heap.size, .slice a1 n1 c1) (by simp)).2.1 (H11.out.is (w3.heap.size, w4.heap.size, .slice a3 n3 c3) (by simp)).2.1 (H11.out.is (w8.heap.size, w9.heap.size, .slice a4 n4 c4) (by simp)).2.1).mono ?_
  rintro e w12 ⟨rfl, t12⟩
  have H12 : Hid (Below w.heap.size w w12) := H11.out.below.trans (t12.below (fun i q => q) H11.out.below.size)
  clear t12 H11
  go_wp2_with fail
  refine (fixed_any w12).mono ?_
  rintro e w13 ⟨rfl, h13⟩
  have H13 : Hid (Below w.heap.size w w13) := ch H12.out h13
  clear h13 H12
  go_wp2_with fail
  go_ret
  exact ⟨rfl, H13.out⟩
end Go.Proofs.Ytnknhjabebcmeaa
