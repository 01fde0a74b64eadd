/-
  FrameScans: the law.
-/
import Derived.Test.YtnknhjabebcmeaaSn
namespace Go.Proofs.Ytnknhjabebcmeaa
open Go.RowKit

theorem tot_ge (l : List (List Nat)) : 7 * l.length ≤ tot l := by
  induction l with
  | nil => simp [tot]
  | cons p l ih => simp only [List.length_cons, tot]; omega
theorem scP_len (s : List Nat) : (scP s).length ≤ s.length := by
  have h1 := (sc_back s.length s (Nat.le_refl _)).2.2
  have h2 := tot_ge (scP s)
  omega
/-- the last byte turned -/
def tl1 (s : List Nat) : List Nat := s.set (s.length - 1) (gd s (s.length - 1) ^^^ 1)
theorem tl1_len (s : List Nat) : (tl1 s).length = s.length := by simp [tl1]
theorem room_set {w : World} {g cap : Nat} {s : List Nat} (hr : Room w g cap s) (h0 : 0 < s.length) (hl : s.length ≤ 140737488351232) :
    Vb (w.setCell ⟨g, s.length - 1, none⟩ (.int .u8 ((gd s (s.length - 1) ^^^ 1 : Nat) : Int))) (.slice (some ⟨g, 0, none⟩) s.length cap) (tl1 s) := by
  have h1 := str_pre hr.str
  have h2 := str_set h1 (s.length - 1) (gd s (s.length - 1) ^^^ 1) (by omega) (Nat.xor_lt_two_pow (n := 8) (gd_lt h1.ok.2 _) (by decide))
  have h3 : Str (w.setCell ⟨g, s.length - 1, none⟩ (.int .u8 ((gd s (s.length - 1) ^^^ 1 : Nat) : Int))) (fun i => i = g) (.slice (some ⟨g, 0, none⟩) s.length cap) (tl1 s) := h2
  exact h3.vb (by rw [tl1_len]; exact hl)
theorem room_cell {w : World} {g cap : Nat} {s : List Nat} (hr : Room w g cap s) {i : Nat} (hi : i < s.length) : w.cell? ⟨g, i, none⟩ = some (.int .u8 ((gd s i : Nat) : Int)) ∧ w.frozen? ⟨g, i, none⟩ = false ∧ gd s i < 256 ∧ s.length ≤ cap := by
  have h1 := str_pre hr.str
  obtain ⟨⟨f, r, hf⟩, h2, _⟩ := own_row h1.own
  have e := hf i hi
  rw [bv_at hi] at e
  refine ⟨?_, r.frozen i, gd_lt h1.ok.2 i, h2⟩
  rw [r.cell (i := i) (by omega)]
  exact e.symm
/-- Apart of two lists and three lists of lists -/
theorem all_apart {W w9 : World} {B l1 h1 l2 h2 l3 h3 l4 h4 l5 h5 : Nat} {p p2 v3 v4 v5 v9 : Value} {U3 U4 U5 : List Value} {M3 M4 M5 : List (List Nat)} (a1 : Iw W l1 h1 p) (a2 : Iw W l2 h2 p2) (a3 : Gw W l3 h3 v3 U3 M3) (a4 : Gw W l4 h4 v4 U4 M4) (a5 : Gw W l5 h5 v5 U5 M5)
    (d12 : h1 ≤ l2 ∨ h2 ≤ l1) (d13 : h1 ≤ l3 ∨ h3 ≤ l1) (d14 : h1 ≤ l4 ∨ h4 ≤ l1) (d15 : h1 ≤ l5 ∨ h5 ≤ l1) (d23 : h2 ≤ l3 ∨ h3 ≤ l2) (d24 : h2 ≤ l4 ∨ h4 ≤ l2) (d25 : h2 ≤ l5 ∨ h5 ≤ l2) (d34 : h3 ≤ l4 ∨ h4 ≤ l3) (d35 : h3 ≤ l5 ∨ h5 ≤ l3) (d45 : h4 ≤ l5 ∨ h5 ≤ l4)
    (b1 : B ≤ l1) (b2 : B ≤ l2) (b3 : B ≤ l3) (b4 : B ≤ l4) (b5 : B ≤ l5) (k : Below W.heap.size W w9)
    (own : w9.ownsRow W.heap.size 23 1 v9 (2 + M3.length + M4.length + M5.length) ([p, p2] ++ U3 ++ U4 ++ U5)) (hn : 2 + M3.length + M4.length + M5.length ≤ 274877906944) :
    Calls Try.prog 16 #[v9] w9 fun e w' => e = .returned (.bool true) ∧ Turn (fun i => B ≤ i) w9 w' := by
  have c1 := a1.below k
  have c2 := a2.below k
  have c3 := a3.below k
  have c4 := a4.below k
  have c5 := a5.below k
  obtain ⟨a, c, e⟩ := own_slice own
  subst e
  have el : ([p, p2] ++ U3 ++ U4 ++ U5).length = 2 + M3.length + M4.length + M5.length := by have := own.1; omega
  have sUU : ∀ {lo hi lo' hi' : Nat} {v v' : Value} {U U' : List Value} {M M' : List (List Nat)}, Gw w9 lo hi v U M → Gw w9 lo' hi' v' U' M' → (hi ≤ lo' ∨ hi' ≤ lo) → ∀ x ∈ U, ∀ y ∈ U', Sep x y := fun g g' d x hx y hy b q1 q2 => by
    have := (g.gl.lo x hx b q1).1
    have := g.hu x hx b q1
    have := (g'.gl.lo y hy b q2).1
    have := g'.hu y hy b q2
    omega
  have sIU : ∀ {lo hi lo' hi' : Nat} {x v' : Value} {U' : List Value} {M' : List (List Nat)}, Iw w9 lo hi x → Gw w9 lo' hi' v' U' M' → (hi ≤ lo' ∨ hi' ≤ lo) → ∀ y ∈ U', Sep x y := fun g g' d y hy b q1 q2 => by
    have := g.lo b q1
    have := g.hi b q1
    have := (g'.gl.lo y hy b q2).1
    have := g'.hu y hy b q2
    omega
  rw [← el] at own ⊢
  refine (Tt.apart_any5 w9 W.heap.size a c ([p, p2] ++ U3 ++ U4 ++ U5) own (fun u hu => ?_) ?_ (by omega)).mono ?_
  · simp only [List.mem_append, List.mem_cons, List.not_mem_nil, or_false] at hu
    rcases hu with (((rfl | rfl) | q) | q) | q
    · exact c1.stw
    · exact c2.stw
    · exact c3.gl.stw u q
    · exact c4.gl.stw u q
    · exact c5.gl.stw u q
  · rw [List.pairwise_append, List.pairwise_append, List.pairwise_append]
    refine ⟨⟨⟨?_, c3.gl.sep, fun x hx y hy => ?_⟩, c4.gl.sep, fun x hx y hy => ?_⟩, c5.gl.sep, fun x hx y hy => ?_⟩
    · simp only [List.pairwise_cons, List.mem_cons, List.not_mem_nil, or_false, forall_eq, List.Pairwise.nil, and_true, false_implies, implies_true]
      intro b q1 q2
      have := c1.lo b q1
      have := c1.hi b q1
      have := c2.lo b q2
      have := c2.hi b q2
      omega
    · simp only [List.mem_cons, List.not_mem_nil, or_false] at hx
      rcases hx with rfl | rfl
      · exact sIU c1 c3 d13 y hy
      · exact sIU c2 c3 d23 y hy
    · simp only [List.mem_append, List.mem_cons, List.not_mem_nil, or_false] at hx
      rcases hx with (rfl | rfl) | q
      · exact sIU c1 c4 d14 y hy
      · exact sIU c2 c4 d24 y hy
      · exact sUU c3 c4 d34 x q y hy
    · simp only [List.mem_append, List.mem_cons, List.not_mem_nil, or_false] at hx
      rcases hx with ((rfl | rfl) | q) | q
      · exact sIU c1 c5 d15 y hy
      · exact sIU c2 c5 d25 y hy
      · exact sUU c3 c5 d35 x q y hy
      · exact sUU c4 c5 d45 x q y hy
  · rintro e w' ⟨rfl, t⟩
    refine ⟨rfl, t.mono ?_⟩
    rintro i ⟨u, hu, hg⟩
    left
    simp only [List.mem_append, List.mem_cons, List.not_mem_nil, or_false] at hu
    rcases hu with (((rfl | rfl) | q) | q) | q
    · have := c1.lo i hg; omega
    · have := c2.lo i hg; omega
    · have := (c3.gl.lo u q i hg).1; omega
    · have := (c4.gl.lo u q i hg).1; omega
    · have := (c5.gl.lo u q i hg).1; omega

set_option maxRecDepth 100000 in
set_option maxHeartbeats 6400000 in
theorem fscans_any (w : World) (v : Value) (s : List Nat) (hv : Vb w v s) (hsm : s.length ≤ 1048576) :
    Calls Try.prog 5 #[v] w fun e w' => e = .returned (.bool true) ∧ Below w.heap.size w w' := by
  obtain ⟨a, c, ev⟩ : ∃ a c, v = .slice a s.length c := by
    obtain ⟨a, b, off, c, rfl, _⟩ := hv
    exact ⟨a, c, rfl⟩
  subst ev
  have HV : Hid (Vb w (.slice a s.length c) s) := hv
  have hsl := scP_len s
  have hed := edF_len 0 (scP s)
  have HL : Hid (s.length ≤ 1048576 ∧ (scP s).length ≤ 1048576 ∧ (edF 0 (scP s)).length ≤ 1048576) := ⟨hsm, by omega, by omega⟩
  obtain ⟨n, en⟩ : ∃ n, n = s.length := ⟨_, rfl⟩
  have HN : Hid (n = s.length) := en
  rw [← en] at HV hsm ⊢
  clear hv en hsl hed
  go_enter Try.func5, Try.ntmps5
  go_wp2_with fail
  refine (roomy_vb HV.out).mono ?_
  rintro e w1 ⟨g, cap, rfl, r1, hg, b1⟩
  rw [← HN.out]
  have HR : Hid (Room w1 g cap s ∧ w.heap.size ≤ g ∧ g < w1.heap.size) := ⟨r1, hg, r1.lt⟩
  have H1 : Hid (Sn w w1 [(.slice (some ⟨g, 0, none⟩) n cap, s), (.slice a n c, s)] [] [] [] []) := ((Sn.start HV.out).keep b1).add (by
    have := r1.vb (by have := HL.out.1; omega)
    rw [← HN.out] at this
    exact this)
  clear r1 hg b1
  go_wp2_with fail
  refine (first_vb (H1.out.vs (.slice (some ⟨g, 0, none⟩) n cap, s) (by simp))).mono ?_
  rintro e w2 ⟨u1, rfl, h2⟩
  obtain ⟨x, hx⟩ : ∃ x, x = fE s := ⟨_, rfl⟩
  have HX : Hid (x = fE s) := hx
  obtain ⟨y, hy⟩ : ∃ y, y = fN s := ⟨_, rfl⟩
  have HY : Hid (y = fN s) := hy
  obtain ⟨P, hP⟩ : ∃ P, P = fP s := ⟨_, rfl⟩
  have HP : Hid (P = fP s) := hP
  rw [← hx, ← hy]
  rw [← hP] at h2
  obtain ⟨a1, n1, c1, rfl⟩ := h2.formE
  have H2 : Hid (Sn w w2 _ _ _ _ _ ∧ Room w2 g cap s ∧ w1.heap.size ≤ w2.heap.size) := ⟨H1.out.ans h2, HR.out.1.below h2.below, h2.below.size⟩
  clear hx hy hP h2 H1
  go_wp2_with fail
  refine (rfirst_vb (H2.out.1.vs (.slice a n c, s) (by simp))).mono ?_
  rintro e w3 ⟨u2, rfl, h3⟩
  rw [← HX.out, ← HY.out]
  rw [← HP.out] at h3
  obtain ⟨a2, n2, c2, rfl⟩ := h3.formE
  have H3 : Hid (Sn w w3 _ _ _ _ _ ∧ Room w3 g cap s ∧ w1.heap.size ≤ w2.heap.size ∧ w2.heap.size ≤ w3.heap.size) := ⟨(H2.out.1.keep h3.below).add h3.vb, H2.out.2.1.below h3.below, H2.out.2.2, h3.below.size⟩
  clear h3 H2
  go_wp2_with fail
  refine (same_yes (H3.out.1.vs (.slice a1 n1 c1, P) (by simp)) (H3.out.1.vs (.slice a2 n2 c2, P) (by simp)) rfl).mono ?_
  rintro e w4 ⟨rfl, h4⟩
  have H4 : Hid (Sn w w4 _ _ _ _ _ ∧ Room w4 g cap s ∧ w1.heap.size ≤ w2.heap.size ∧ w2.heap.size ≤ w4.heap.size) := ⟨H3.out.1.keep h4, H3.out.2.1.below h4, H3.out.2.2.1, Nat.le_trans H3.out.2.2.2 h4.size⟩
  clear h4 H3
  go_wp2_with fail
  refine (scan_vb (s := s) (H4.out.1.vs (.slice (some ⟨g, 0, none⟩) n cap, s) (by simp)) (by have := HL.out.1; omega)).mono ?_
  rintro e w5 ⟨l1, e1, rfl, ⟨U1, g1⟩, i1, b5⟩
  obtain ⟨z, hz⟩ : ∃ z, z = scE s := ⟨_, rfl⟩
  have HZ : Hid (z = scE s) := hz
  obtain ⟨M, hM⟩ : ∃ M, M = scP s := ⟨_, rfl⟩
  have HM : Hid (M = scP s) := hM
  obtain ⟨E, hE⟩ : ∃ E, E = edF 0 (scP s) := ⟨_, rfl⟩
  have HE : Hid (E = edF 0 (scP s)) := hE
  have HML : Hid (M.length ≤ 1048576 ∧ E.length ≤ 1048576) := ⟨by rw [hM]; exact HL.out.2.1, by rw [hE]; exact HL.out.2.2⟩
  rw [← hz]
  rw [← hM] at g1
  rw [← hE] at i1
  obtain ⟨la1, lc1, q1⟩ := own_slice g1.own
  obtain ⟨ea1, ec1, q2⟩ := own_slice i1
  subst q1
  subst q2
  have H5 : Hid (Sn w w5 _ _ _ _ _ ∧ Room w5 g cap s ∧ w1.heap.size ≤ w2.heap.size ∧ w2.heap.size ≤ w4.heap.size ∧ w4.heap.size ≤ w5.heap.size) := ⟨H4.out.1.scan b5 g1 i1 (by have := HML.out.1; omega) (by have := HML.out.2; omega), H4.out.2.1.below b5, H4.out.2.2.1, H4.out.2.2.2, b5.size⟩
  obtain ⟨mlen, hml⟩ : ∃ k, k = M.length := ⟨_, rfl⟩
  obtain ⟨elen, hel⟩ : ∃ k, k = E.length := ⟨_, rfl⟩
  have HQL : Hid (mlen = M.length ∧ elen = E.length) := ⟨hml, hel⟩
  rw [← hml, ← hel] at H5 ⊢
  clear hz hM hE g1 i1 b5 H4 hml hel
  go_wp2_with fail
  refine (rscan_vb (s := s) (H5.out.1.vs (.slice a n c, s) (by simp)) (by have := HL.out.1; omega)).mono ?_
  rintro e w6 ⟨l2, e2, rfl, ⟨U2, g2⟩, i2, b6⟩
  rw [← HZ.out]
  rw [← HM.out] at g2
  rw [← HE.out] at i2
  obtain ⟨la2, lc2, q1⟩ := own_slice g2.own
  obtain ⟨ea2, ec2, q2⟩ := own_slice i2
  subst q1
  subst q2
  rw [← HQL.out.1, ← HQL.out.2]
  have g2' : Gl w6 w5.heap.size (.slice la2 mlen lc2) U2 M := by rw [HQL.out.1]; exact g2
  have i2' : Gi w6 w5.heap.size (.slice ea2 elen ec2) E := by rw [HQL.out.2]; exact i2
  have H6 : Hid (Sn w w6 _ _ _ _ _ ∧ Room w6 g cap s ∧ w1.heap.size ≤ w2.heap.size ∧ w2.heap.size ≤ w4.heap.size ∧ w4.heap.size ≤ w5.heap.size ∧ w5.heap.size ≤ w6.heap.size) := ⟨H5.out.1.scan b6 g2' i2' (by have := HML.out.1; omega) (by have := HML.out.2; omega), H5.out.2.1.below b6, H5.out.2.2.1, H5.out.2.2.2.1, H5.out.2.2.2.2, b6.size⟩
  clear g2' i2'
  clear g2 i2 b6 H5
  go_wp2_with fail
  refine (sameL_yes (H6.out.1.ls (.slice la1 mlen lc1, M) (by simp)) (H6.out.1.ls (.slice la2 mlen lc2, M) (by simp))).mono ?_
  rintro e w7 ⟨rfl, b7⟩
  have H7 : Hid (Sn w w7 _ _ _ _ _ ∧ Room w7 g cap s ∧ w1.heap.size ≤ w2.heap.size ∧ w2.heap.size ≤ w4.heap.size ∧ w4.heap.size ≤ w5.heap.size ∧ w5.heap.size ≤ w7.heap.size) := ⟨H6.out.1.keep b7, H6.out.2.1.below b7, H6.out.2.2.1, H6.out.2.2.2.1, H6.out.2.2.2.2.1, Nat.le_trans H6.out.2.2.2.2.2 b7.size⟩
  clear b7 H6
  go_wp2_with fail
  refine (sameI_yes (H7.out.1.ns (.slice ea1 elen ec1, E) (by simp)) (H7.out.1.ns (.slice ea2 elen ec2, E) (by simp))).mono ?_
  rintro e w8 ⟨rfl, b8⟩
  have H8 : Hid (Sn w w8 _ _ _ _ _ ∧ Room w8 g cap s ∧ w1.heap.size ≤ w2.heap.size ∧ w2.heap.size ≤ w4.heap.size ∧ w4.heap.size ≤ w5.heap.size ∧ w5.heap.size ≤ w8.heap.size) := ⟨H7.out.1.keep b8, H7.out.2.1.below b8, H7.out.2.2.1, H7.out.2.2.2.1, H7.out.2.2.2.2.1, Nat.le_trans H7.out.2.2.2.2.2 b8.size⟩
  clear b8 H7
  go_wp2_with fail
  refine (scan_vb (s := s) (H8.out.1.vs (.slice (some ⟨g, 0, none⟩) n cap, s) (by simp)) (by have := HL.out.1; omega)).mono ?_
  rintro e w9 ⟨l3, e3, rfl, ⟨U3, g3⟩, i3, b9⟩
  rw [← HZ.out]
  rw [← HM.out] at g3
  rw [← HE.out] at i3
  obtain ⟨la3, lc3, q1⟩ := own_slice g3.own
  obtain ⟨ea3, ec3, q2⟩ := own_slice i3
  subst q1
  subst q2
  rw [← HQL.out.1, ← HQL.out.2]
  have g3' : Gl w9 w8.heap.size (.slice la3 mlen lc3) U3 M := by rw [HQL.out.1]; exact g3
  have i3' : Gi w9 w8.heap.size (.slice ea3 elen ec3) E := by rw [HQL.out.2]; exact i3
  have H9 : Hid (Sn w w9 _ _ _ _ _ ∧ Room w9 g cap s ∧ w1.heap.size ≤ w2.heap.size ∧ w2.heap.size ≤ w4.heap.size ∧ w4.heap.size ≤ w5.heap.size ∧ w5.heap.size ≤ w8.heap.size ∧ w8.heap.size ≤ w9.heap.size) := ⟨H8.out.1.scan b9 g3' i3' (by have := HML.out.1; omega) (by have := HML.out.2; omega), H8.out.2.1.below b9, H8.out.2.2.1, H8.out.2.2.2.1, H8.out.2.2.2.2.1, H8.out.2.2.2.2.2, b9.size⟩
  clear g3' i3'
  clear g3 i3 b9 H8
  go_wp2_with fail
  refine (first_vb (H9.out.1.vs (.slice (some ⟨g, 0, none⟩) n cap, s) (by simp))).mono ?_
  rintro e w10 ⟨u3, rfl, h10⟩
  rw [← HX.out, ← HY.out]
  rw [← HP.out] at h10
  obtain ⟨a3, n3, c3, rfl⟩ := h10.formE
  have H10 : Hid (Sn w w10 _ _ _ _ _ ∧ Room w10 g cap s ∧ w1.heap.size ≤ w2.heap.size ∧ w2.heap.size ≤ w4.heap.size ∧ w4.heap.size ≤ w5.heap.size ∧ w5.heap.size ≤ w8.heap.size ∧ w8.heap.size ≤ w9.heap.size ∧ w9.heap.size ≤ w10.heap.size) := ⟨H9.out.1.ans h10, H9.out.2.1.below h10.below, H9.out.2.2.1, H9.out.2.2.2.1, H9.out.2.2.2.2.1, H9.out.2.2.2.2.2.1, H9.out.2.2.2.2.2.2, h10.below.size⟩
  clear h10 H9
  go_wp2_with fail
  refine (sameL_yes (H10.out.1.ls (.slice la3 mlen lc3, M) (by simp)) (H10.out.1.ls (.slice la2 mlen lc2, M) (by simp))).mono ?_
  rintro e w11 ⟨rfl, b11⟩
  have H11 : Hid (Sn w w11 _ _ _ _ _ ∧ Room w11 g cap s ∧ w1.heap.size ≤ w2.heap.size ∧ w2.heap.size ≤ w4.heap.size ∧ w4.heap.size ≤ w5.heap.size ∧ w5.heap.size ≤ w8.heap.size ∧ w8.heap.size ≤ w9.heap.size ∧ w9.heap.size ≤ w10.heap.size ∧ w10.heap.size ≤ w11.heap.size) := ⟨H10.out.1.keep b11, H10.out.2.1.below b11, H10.out.2.2.1, H10.out.2.2.2.1, H10.out.2.2.2.2.1, H10.out.2.2.2.2.2.1, H10.out.2.2.2.2.2.2.1, H10.out.2.2.2.2.2.2.2, b11.size⟩
  clear b11 H10
  go_wp2_with fail
  refine (same_yes (H11.out.1.vs (.slice a3 n3 c3, P) (by simp)) (H11.out.1.vs (.slice a2 n2 c2, P) (by simp)) rfl).mono ?_
  rintro e w12 ⟨rfl, b12⟩
  have H12 : Hid (Sn w w12 _ _ _ _ _ ∧ Room w12 g cap s ∧ w1.heap.size ≤ w2.heap.size ∧ w2.heap.size ≤ w4.heap.size ∧ w4.heap.size ≤ w5.heap.size ∧ w5.heap.size ≤ w8.heap.size ∧ w8.heap.size ≤ w9.heap.size ∧ w9.heap.size ≤ w10.heap.size ∧ w10.heap.size ≤ w12.heap.size) := ⟨H11.out.1.keep b12, H11.out.2.1.below b12, H11.out.2.2.1, H11.out.2.2.2.1, H11.out.2.2.2.2.1, H11.out.2.2.2.2.2.1, H11.out.2.2.2.2.2.2.1, H11.out.2.2.2.2.2.2.2.1, Nat.le_trans H11.out.2.2.2.2.2.2.2.2 b12.size⟩
  clear b12 H11
  go_wp2_with fail
  have K13 := whole_vb H12.out.2.1 (H12.out.1.vs (.slice a n c, s) (by simp))
  rw [← HN.out] at K13
  refine K13.mono ?_
  rintro e w13 ⟨rfl, b13⟩
  have H13 : Hid (Sn w w13 _ _ _ _ _ ∧ Room w13 g cap s ∧ w1.heap.size ≤ w2.heap.size ∧ w2.heap.size ≤ w4.heap.size ∧ w4.heap.size ≤ w5.heap.size ∧ w5.heap.size ≤ w8.heap.size ∧ w8.heap.size ≤ w9.heap.size ∧ w9.heap.size ≤ w10.heap.size ∧ w10.heap.size ≤ w13.heap.size) := ⟨H12.out.1.keep b13, H12.out.2.1.below b13, H12.out.2.2.1, H12.out.2.2.2.1, H12.out.2.2.2.2.1, H12.out.2.2.2.2.2.1, H12.out.2.2.2.2.2.2.1, H12.out.2.2.2.2.2.2.2.1, Nat.le_trans H12.out.2.2.2.2.2.2.2.2 b13.size⟩
  clear b13 H12 K13
  -- what holds behind the turned byte, whether there is one or not
  have HF : Hid (∀ w14 : World, ∀ t : List Nat, Vb w14 (.slice (some ⟨g, 0, none⟩) n cap) t → t.length ≤ 1048576 → Turn (fun i => i = g) w13 w14 → Sn w w14 [(.slice (some ⟨g, 0, none⟩) n cap, t)] [] [] [(w9.heap.size, w10.heap.size, .slice a3 n3 c3), (w1.heap.size, w2.heap.size, .slice a1 n1 c1)] [(w8.heap.size, w9.heap.size, .slice la3 mlen lc3, U3, M), (w5.heap.size, w6.heap.size, .slice la2 mlen lc2, U2, M), (w4.heap.size, w5.heap.size, .slice la1 mlen lc1, U1, M)] ∧ w10.heap.size ≤ w14.heap.size) := fun w14 t hvt _ ht => by
    refine ⟨(H13.out.1.turn ht HR.out.2.1 (fun p hp => ?_) (fun p hp => ?_)).add hvt, Nat.le_trans H13.out.2.2.2.2.2.2.2.2 ht.size⟩
    · simp only [List.mem_cons, List.not_mem_nil, or_false] at hp
      rcases hp with rfl | rfl
      · show g < w9.heap.size
        have := H13.out.2.2
        have := HR.out.2.2
        omega
      · exact HR.out.2.2
    · simp only [List.mem_cons, List.not_mem_nil, or_false] at hp
      rcases hp with rfl | rfl | rfl
      · show g < w8.heap.size
        have := H13.out.2.2
        have := HR.out.2.2
        omega
      · show g < w5.heap.size
        have := H13.out.2.2
        have := HR.out.2.2
        omega
      · show g < w4.heap.size
        have := H13.out.2.2
        have := HR.out.2.2
        omega
  have HSZ : Hid (w1.heap.size ≤ w2.heap.size ∧ w2.heap.size ≤ w4.heap.size ∧ w4.heap.size ≤ w5.heap.size ∧ w5.heap.size ≤ w8.heap.size ∧ w8.heap.size ≤ w9.heap.size ∧ w9.heap.size ≤ w10.heap.size) := ⟨H13.out.2.2.1, H13.out.2.2.2.1, H13.out.2.2.2.2.1, H13.out.2.2.2.2.2.1, H13.out.2.2.2.2.2.2.1, H13.out.2.2.2.2.2.2.2.1⟩
  have HT : Hid (∃ t : List Nat, ∀ w14 : World, (w14 = if n = 0 then w13 else w13.setCell ⟨g, n - 1, none⟩ (.int .u8 ((gd s (n - 1) ^^^ 1 : Nat) : Int))) → Sn w w14 [(.slice (some ⟨g, 0, none⟩) n cap, t)] [] [] [(w9.heap.size, w10.heap.size, .slice a3 n3 c3), (w1.heap.size, w2.heap.size, .slice a1 n1 c1)] [(w8.heap.size, w9.heap.size, .slice la3 mlen lc3, U3, M), (w5.heap.size, w6.heap.size, .slice la2 mlen lc2, U2, M), (w4.heap.size, w5.heap.size, .slice la1 mlen lc1, U1, M)] ∧ w10.heap.size ≤ w14.heap.size ∧ t.length ≤ 1048576) := by
    by_cases h0 : n = 0
    · refine ⟨s, fun w14 e => ?_⟩
      rw [if_pos h0] at e
      subst e
      have hb := H13.out.2.1.vb (by have := HL.out.1; omega)
      rw [← HN.out] at hb
      have := HF.out w14 s hb HL.out.1 (Turn.refl _ _)
      exact ⟨this.1, this.2, HL.out.1⟩
    · refine ⟨tl1 s, fun w14 e => ?_⟩
      rw [if_neg h0] at e
      have hb := room_set H13.out.2.1 (by have := HN.out; omega) (by have := HL.out.1; omega)
      rw [← HN.out] at hb
      rw [← e] at hb
      have := HF.out w14 (tl1 s) hb (by rw [tl1_len]; exact HL.out.1) (by rw [e]; exact Turn.setCell w13 ⟨g, n - 1, none⟩ _ rfl)
      exact ⟨this.1, this.2, by rw [tl1_len]; exact HL.out.1⟩
  have HRM : Hid (Room w13 g cap s) := H13.out.2.1
  clear HF H13 HR HV HX HY HP HZ HM HE
  obtain ⟨t, ht⟩ := HT.out
  have HT2 : Hid (∀ w14 : World, (w14 = if n = 0 then w13 else w13.setCell ⟨g, n - 1, none⟩ (.int .u8 ((gd s (n - 1) ^^^ 1 : Nat) : Int))) → Sn w w14 [(.slice (some ⟨g, 0, none⟩) n cap, t)] [] [] [(w9.heap.size, w10.heap.size, .slice a3 n3 c3), (w1.heap.size, w2.heap.size, .slice a1 n1 c1)] [(w8.heap.size, w9.heap.size, .slice la3 mlen lc3, U3, M), (w5.heap.size, w6.heap.size, .slice la2 mlen lc2, U2, M), (w4.heap.size, w5.heap.size, .slice la1 mlen lc1, U1, M)] ∧ w10.heap.size ≤ w14.heap.size ∧ t.length ≤ 1048576) := ht
  clear ht HT
  have TAIL : ∀ w14 : World, Sn w w14 [(.slice (some ⟨g, 0, none⟩) n cap, t)] [] [] [(w9.heap.size, w10.heap.size, .slice a3 n3 c3), (w1.heap.size, w2.heap.size, .slice a1 n1 c1)] [(w8.heap.size, w9.heap.size, .slice la3 mlen lc3, U3, M), (w5.heap.size, w6.heap.size, .slice la2 mlen lc2, U2, M), (w4.heap.size, w5.heap.size, .slice la1 mlen lc1, U1, M)] ∧ w10.heap.size ≤ w14.heap.size ∧ t.length ≤ 1048576 → True := fun _ _ => trivial
  clear TAIL
  by_cases h0 : n = 0
  case' pos =>
    obtain ⟨w14, e14⟩ : ∃ w14, w14 = w13 := ⟨_, rfl⟩
    have H14 : Hid (Sn w w14 [(.slice (some ⟨g, 0, none⟩) n cap, t)] [] [] [(w9.heap.size, w10.heap.size, .slice a3 n3 c3), (w1.heap.size, w2.heap.size, .slice a1 n1 c1)] [(w8.heap.size, w9.heap.size, .slice la3 mlen lc3, U3, M), (w5.heap.size, w6.heap.size, .slice la2 mlen lc2, U2, M), (w4.heap.size, w5.heap.size, .slice la1 mlen lc1, U1, M)] ∧ w10.heap.size ≤ w14.heap.size ∧ t.length ≤ 1048576) := HT2.out w14 (by rw [if_pos h0]; exact e14)
    rw [← e14]
    have i0 : ¬ (0 : Int) < (n : Int) := by omega
    clear HT2 e14 HRM h0
    go_wp2_with fail
  case' neg =>
    obtain ⟨c0, f0, z0, hcap⟩ := room_cell HRM.out (i := n - 1) (by have := HN.out; omega)
    obtain ⟨z, hz⟩ : ∃ z, z = gd s (n - 1) := ⟨_, rfl⟩
    have HZ : Hid (z = gd s (n - 1)) := hz
    rw [← hz] at c0 z0
    have hxx := u8_xor_nat z 1 z0 (by decide)
    rw [show ((1 : Nat) : Int) = (1 : Int) from rfl] at hxx
    have i0 : (0 : Int) < (n : Int) := by omega
    have o1 : (0 : Int) ≤ (n : Int) - 1 := by omega
    have o2 : (n : Int) - 1 < (n : Int) := by omega
    have o3 : ((n : Int) - 1).toNat = n - 1 := by omega
    clear hz hcap HRM
    go_wp2_with fail
    obtain ⟨w14, e14⟩ : ∃ w14, w14 = w13.setCell ⟨g, n - 1, none⟩ (.int .u8 ((z ^^^ 1 : Nat) : Int)) := ⟨_, rfl⟩
    have H14 : Hid (Sn w w14 [(.slice (some ⟨g, 0, none⟩) n cap, t)] [] [] [(w9.heap.size, w10.heap.size, .slice a3 n3 c3), (w1.heap.size, w2.heap.size, .slice a1 n1 c1)] [(w8.heap.size, w9.heap.size, .slice la3 mlen lc3, U3, M), (w5.heap.size, w6.heap.size, .slice la2 mlen lc2, U2, M), (w4.heap.size, w5.heap.size, .slice la1 mlen lc1, U1, M)] ∧ w10.heap.size ≤ w14.heap.size ∧ t.length ≤ 1048576) := HT2.out w14 (by rw [if_neg h0, ← HZ.out]; exact e14)
    rw [← e14]
    clear HT2 e14 HZ hxx c0 f0 z0 o1 o2 o3 h0
  all_goals
    refine (scan_vb (s := t) (H14.out.1.vs (.slice (some ⟨g, 0, none⟩) n cap, t) (by simp)) (by have := H14.out.2.2; omega)).mono ?_
    rintro e w15 ⟨l4, e4, rfl, ⟨U4, g4⟩, i4, b15⟩
    have htl := scP_len t
    have hte := edF_len 0 (scP t)
    obtain ⟨z4, hz4⟩ : ∃ z, z = scE t := ⟨_, rfl⟩
    have HZ4 : Hid (z4 = scE t) := hz4
    obtain ⟨M4, hM4⟩ : ∃ M, M = scP t := ⟨_, rfl⟩
    have HM4 : Hid (M4 = scP t) := hM4
    obtain ⟨E4, hE4⟩ : ∃ E, E = edF 0 (scP t) := ⟨_, rfl⟩
    have HE4 : Hid (E4 = edF 0 (scP t)) := hE4
    have HML4 : Hid (M4.length ≤ 1048576 ∧ E4.length ≤ 1048576) := ⟨by rw [hM4]; have := H14.out.2.2; omega, by rw [hE4]; have := H14.out.2.2; omega⟩
    rw [← hz4]
    rw [← hM4] at g4
    rw [← hE4] at i4
    obtain ⟨la4, lc4, q1⟩ := own_slice g4.own
    obtain ⟨ea4, ec4, q2⟩ := own_slice i4
    subst q1
    subst q2
    have H15 : Hid (Sn w w15 _ _ _ _ _ ∧ w10.heap.size ≤ w14.heap.size ∧ w14.heap.size ≤ w15.heap.size ∧ t.length ≤ 1048576) := ⟨H14.out.1.scan b15 g4 i4 (by have := HML4.out.1; omega) (by have := HML4.out.2; omega), H14.out.2.1, b15.size, H14.out.2.2⟩
    obtain ⟨ml4, hml⟩ : ∃ k, k = M4.length := ⟨_, rfl⟩
    obtain ⟨el4, hel⟩ : ∃ k, k = E4.length := ⟨_, rfl⟩
    have HQ4 : Hid (ml4 = M4.length ∧ el4 = E4.length) := ⟨hml, hel⟩
    rw [← hml, ← hel] at H15 ⊢
    clear hz4 hM4 hE4 g4 i4 b15 H14 hml hel htl hte
    go_wp2_with fail
    refine (rscan_vb (s := t) (H15.out.1.vs (.slice (some ⟨g, 0, none⟩) n cap, t) (by simp)) (by have := H15.out.2.2.2; omega)).mono ?_
    rintro e w16 ⟨l5, e5, rfl, ⟨U5, g5⟩, i5, b16⟩
    rw [← HZ4.out]
    rw [← HM4.out] at g5
    rw [← HE4.out] at i5
    obtain ⟨la5, lc5, q1⟩ := own_slice g5.own
    obtain ⟨ea5, ec5, q2⟩ := own_slice i5
    subst q1
    subst q2
    rw [← HQ4.out.1, ← HQ4.out.2]
    have g5' : Gl w16 w15.heap.size (.slice la5 ml4 lc5) U5 M4 := by rw [HQ4.out.1]; exact g5
    have i5' : Gi w16 w15.heap.size (.slice ea5 el4 ec5) E4 := by rw [HQ4.out.2]; exact i5
    have H16 : Hid (Sn w w16 _ _ _ _ _ ∧ w10.heap.size ≤ w14.heap.size ∧ w14.heap.size ≤ w15.heap.size) := ⟨H15.out.1.scan b16 g5' i5' (by have := HML4.out.1; omega) (by have := HML4.out.2; omega), H15.out.2.1, H15.out.2.2.1⟩
    clear g5' i5' g5 i5 b16 H15
    go_wp2_with fail
    refine (sameL_yes (H16.out.1.ls (.slice la4 ml4 lc4, M4) (by simp)) (H16.out.1.ls (.slice la5 ml4 lc5, M4) (by simp))).mono ?_
    rintro e w17 ⟨rfl, b17⟩
    have H17 : Hid (Sn w w17 _ _ _ _ _ ∧ w10.heap.size ≤ w14.heap.size ∧ w14.heap.size ≤ w15.heap.size) := ⟨H16.out.1.keep b17, H16.out.2⟩
    clear b17 H16
    go_wp2_with fail
    refine (sameI_yes (H17.out.1.ns (.slice ea4 el4 ec4, E4) (by simp)) (H17.out.1.ns (.slice ea5 el4 ec5, E4) (by simp))).mono ?_
    rintro e w18 ⟨rfl, b18⟩
    have H18 : Hid (Sn w w18 _ _ _ _ _ ∧ w10.heap.size ≤ w14.heap.size ∧ w14.heap.size ≤ w15.heap.size) := ⟨H17.out.1.keep b18, H17.out.2⟩
    clear b18 H17
    -- the five that lie apart
    have J1 : Iw w18 w1.heap.size w2.heap.size (.slice a1 n1 c1) ∧ w.heap.size ≤ w1.heap.size := by
      have := H18.out.1.is (w1.heap.size, w2.heap.size, .slice a1 n1 c1) (by simp)
      exact ⟨this.1, this.2.1⟩
    have J2 : Iw w18 w9.heap.size w10.heap.size (.slice a3 n3 c3) ∧ w.heap.size ≤ w9.heap.size := by
      have := H18.out.1.is (w9.heap.size, w10.heap.size, .slice a3 n3 c3) (by simp)
      exact ⟨this.1, this.2.1⟩
    have J3 : Gw w18 w4.heap.size w5.heap.size (.slice la1 mlen lc1) U1 M ∧ w.heap.size ≤ w4.heap.size := by
      have := H18.out.1.gs (w4.heap.size, w5.heap.size, .slice la1 mlen lc1, U1, M) (by simp)
      exact ⟨this.1, this.2.1⟩
    have J4 : Gw w18 w8.heap.size w9.heap.size (.slice la3 mlen lc3) U3 M ∧ w.heap.size ≤ w8.heap.size := by
      have := H18.out.1.gs (w8.heap.size, w9.heap.size, .slice la3 mlen lc3, U3, M) (by simp)
      exact ⟨this.1, this.2.1⟩
    have J5 : Gw w18 w14.heap.size w15.heap.size (.slice la4 ml4 lc4) U4 M4 ∧ w.heap.size ≤ w14.heap.size := by
      have := H18.out.1.gs (w14.heap.size, w15.heap.size, .slice la4 ml4 lc4, U4, M4) (by simp)
      exact ⟨this.1, this.2.1⟩
    have HJ : Hid ((Iw w18 w1.heap.size w2.heap.size (.slice a1 n1 c1) ∧ w.heap.size ≤ w1.heap.size) ∧ (Iw w18 w9.heap.size w10.heap.size (.slice a3 n3 c3) ∧ w.heap.size ≤ w9.heap.size) ∧ (Gw w18 w4.heap.size w5.heap.size (.slice la1 mlen lc1) U1 M ∧ w.heap.size ≤ w4.heap.size) ∧ (Gw w18 w8.heap.size w9.heap.size (.slice la3 mlen lc3) U3 M ∧ w.heap.size ≤ w8.heap.size) ∧ (Gw w18 w14.heap.size w15.heap.size (.slice la4 ml4 lc4) U4 M4 ∧ w.heap.size ≤ w14.heap.size) ∧ w10.heap.size ≤ w14.heap.size ∧ Below w.heap.size w w18) := ⟨J1, J2, J3, J4, J5, H18.out.2.1, H18.out.1.below⟩
    clear J1 J2 J3 J4 J5 H18
    have own0 : (w18.alloc (.cells #[.slice a1 n1 c1, .slice a3 n3 c3] 23)).ownsRow w18.heap.size 23 1 (.slice (some ⟨w18.heap.size, 0, none⟩) 2 2) 2 [.slice a1 n1 c1, .slice a3 n3 c3] := World.ownsRow_lit (base := w18.heap.size) (e := 23) (size := 1) w18 #[.slice a1 n1 c1, .slice a3 n3 c3] 2 (Nat.le_refl _) (by decide) rfl
    have HB0 : Hid (Below w18.heap.size w18 (w18.alloc (.cells #[.slice a1 n1 c1, .slice a3 n3 c3] 23))) := (Below.refl _ _).alloc (Nat.le_refl _) _
    have O1 : (w18.alloc (.cells #[.slice a1 n1 c1, .slice a3 n3 c3] 23)).ownsRow w4.heap.size 23 1 (.slice la1 mlen lc1) mlen U1 := by
      have := (HJ.out.2.2.1.1.below HB0.out).gl.own
      rw [← HQL.out.1] at this
      exact this
    have HO1 : Hid ((w18.alloc (.cells #[.slice a1 n1 c1, .slice a3 n3 c3] 23)).ownsRow w18.heap.size 23 1 (.slice (some ⟨w18.heap.size, 0, none⟩) 2 2) 2 [.slice a1 n1 c1, .slice a3 n3 c3] ∧ (w18.alloc (.cells #[.slice a1 n1 c1, .slice a3 n3 c3] 23)).ownsRow w4.heap.size 23 1 (.slice la1 mlen lc1) mlen U1) := ⟨own0, O1⟩
    have mlb : mlen ≤ 1048576 := by have := HQL.out.1; have := HML.out.1; omega
    have mlb4 : ml4 ≤ 1048576 := by have := HQ4.out.1; have := HML4.out.1; omega
    clear own0 O1
    go_wp2_with (at_builtin; go_loud (refine wpList_append_rows (by rfl) (.tmp 152) (.tmp 153) (by rfl) w18.heap.size _ 2 _ (by rfl) HO1.out.1 w4.heap.size _ mlen U1 (by rfl) HO1.out.2 HJ.out.2.2.1.1.gl.one (by omega) (by simp) ?_))
    intro x1 w19 own1 gr1 nn1
    have HB1 : Hid (Below w18.heap.size w18 w19) := HB0.out.trans (grown_below gr1 HO1.out.1 (Nat.le_refl _) (by simp))
    obtain ⟨xa1, xc1, q1⟩ := own_slice own1
    subst q1
    have HO2 : Hid (w19.ownsRow w18.heap.size 23 1 (.slice xa1 (2 + mlen) xc1) (2 + mlen) ([.slice a1 n1 c1, .slice a3 n3 c3] ++ U1) ∧ w19.ownsRow w8.heap.size 23 1 (.slice la3 mlen lc3) mlen U3) := ⟨own1, by
      have := (HJ.out.2.2.2.1.1.below HB1.out).gl.own
      rw [← HQL.out.1] at this
      exact this⟩
    clear own1 gr1 nn1 HO1 HB0
    go_wp2_with (at_builtin; go_loud (refine wpList_append_rows (by rfl) (.tmp 154) (.tmp 155) (by rfl) w18.heap.size _ (2 + mlen) _ (by rfl) HO2.out.1 w8.heap.size _ mlen U3 (by rfl) HO2.out.2 HJ.out.2.2.2.1.1.gl.one (by omega) HB1.out.size ?_))
    intro x2 w20 own2 gr2 nn2
    have HB2 : Hid (Below w18.heap.size w18 w20) := HB1.out.trans (grown_below gr2 HO2.out.1 (Nat.le_refl _) HB1.out.size)
    obtain ⟨xa2, xc2, q1⟩ := own_slice own2
    subst q1
    have HO3 : Hid (w20.ownsRow w18.heap.size 23 1 (.slice xa2 (2 + mlen + mlen) xc2) (2 + mlen + mlen) ([.slice a1 n1 c1, .slice a3 n3 c3] ++ U1 ++ U3) ∧ w20.ownsRow w14.heap.size 23 1 (.slice la4 ml4 lc4) ml4 U4) := ⟨own2, by
      have := (HJ.out.2.2.2.2.1.1.below HB2.out).gl.own
      rw [← HQ4.out.1] at this
      exact this⟩
    clear own2 gr2 nn2 HO2 HB1
    go_wp2_with (at_builtin; go_loud (refine wpList_append_rows (by rfl) (.tmp 156) (.tmp 157) (by rfl) w18.heap.size _ (2 + mlen + mlen) _ (by rfl) HO3.out.1 w14.heap.size _ ml4 U4 (by rfl) HO3.out.2 HJ.out.2.2.2.2.1.1.gl.one (by omega) HB2.out.size ?_))
    intro x3 w21 own3 gr3 nn3
    have HB3 : Hid (Below w18.heap.size w18 w21) := HB2.out.trans (grown_below gr3 HO3.out.1 (Nat.le_refl _) HB2.out.size)
    obtain ⟨xa3, xc3, q1⟩ := own_slice own3
    subst q1
    have HO4 : Hid (w21.ownsRow w18.heap.size 23 1 (.slice xa3 (2 + mlen + mlen + ml4) xc3) (2 + mlen + mlen + ml4) ([.slice a1 n1 c1, .slice a3 n3 c3] ++ U1 ++ U3 ++ U4)) := by
      show w21.ownsRow w18.heap.size 23 1 (.slice xa3 (2 + mlen + mlen + ml4) xc3) (2 + mlen + mlen + ml4) ([.slice a1 n1 c1, .slice a3 n3 c3] ++ U1 ++ U3 ++ U4)
      simpa [List.append_assoc] using own3
    clear own3 gr3 nn3 HO3 HB2
    go_wp2_with fail
    have KA := all_apart (B := w.heap.size) HJ.out.1.1 HJ.out.2.1.1 HJ.out.2.2.1.1 HJ.out.2.2.2.1.1 HJ.out.2.2.2.2.1.1 (by have := HSZ.out; omega) (by have := HSZ.out; omega) (by have := HSZ.out; omega) (by have := HSZ.out; have := HJ.out.2.2.2.2.2.1; omega) (by have := HSZ.out; omega) (by have := HSZ.out; omega) (by have := HSZ.out; have := HJ.out.2.2.2.2.2.1; omega) (by have := HSZ.out; omega) (by have := HSZ.out; have := HJ.out.2.2.2.2.2.1; omega) (by have := HSZ.out; have := HJ.out.2.2.2.2.2.1; omega) HJ.out.1.2 HJ.out.2.1.2 HJ.out.2.2.1.2 HJ.out.2.2.2.1.2 HJ.out.2.2.2.2.1.2 HB3.out (v9 := .slice xa3 (2 + mlen + mlen + ml4) xc3) (by rw [← HQL.out.1, ← HQ4.out.1]; exact HO4.out) (by rw [← HQL.out.1, ← HQ4.out.1]; omega)
    refine KA.mono ?_
    rintro e w22 ⟨rfl, t22⟩
    have H22 : Hid (Below w.heap.size w w22) := by
      have h1 : Below w.heap.size w w21 := ch HJ.out.2.2.2.2.2.2 HB3.out
      exact h1.trans (t22.below (fun i q => q) h1.size)
    clear t22 KA HB3 HO4 HJ
    go_wp2_with fail
    refine (fixed_any w22).mono ?_
    rintro e w23 ⟨rfl, h23⟩
    have H23 : Hid (Below w.heap.size w w23) := ch H22.out h23
    clear h23 H22
    go_wp2_with fail
    go_ret
    exact ⟨rfl, H23.out⟩
end Go.Proofs.Ytnknhjabebcmeaa
