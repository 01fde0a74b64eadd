import Derived.Test.YtledfigfokoiiaaRmkq
/-
  ProofUnpacks: the law, walked.
-/
namespace Go.Proofs.Ytledfigfokoiiaa
open Go.RowKit
theorem Vb.turn {F : Nat → Prop} {w0 w w' : World} {v : Value} {s : List Nat} (h : Vb w0 v s) (k : Below w0.heap.size w0 w) (t : Turn F w w') (hF : ∀ i, F i → w0.heap.size ≤ i) : Vb w' v s := h.keep (k.trans (t.below hF k.size))
set_option maxRecDepth 100000 in
set_option maxHeartbeats 3200000 in
theorem unpacks_any (w : World) (v : Value) (s : List Nat) (h : Vb w v s) :
    Calls Try.prog 5 #[v] w fun e w' => e = .returned (.bool true) ∧ Below w.heap.size w w' := by
  have KN := num_any
  have KR := roomy3_any h
  have HV : Hid (Vb w v s) := h
  obtain ⟨a, b, off, c, rfl, hv, hc, hnil, hl⟩ := h
  have HCN : Hid ((uf s).length ≤ 131072) := uf_cnt (vw_ok hv).2
  obtain ⟨n, en⟩ : ∃ n, n = s.length := ⟨_, rfl⟩
  rw [← en] at KR HV hc hl ⊢
  have HN : Hid (n = s.length) := en
  clear hv hnil en
  go_enter Try.func5, Try.ntmps5
  go_wp2_with fail
  refine KR.mono ?_
  rintro e w1 ⟨u1, rfl, r1, b1⟩
  have K2 := unpack_any w1 u1 s r1.vb
  unfold UnPost at K2
  have HR1 : Hid (Ry (fun q => w.heap.size ≤ q ∧ q < w1.heap.size) w1 u1 s ∧ Below w.heap.size w w1) := ⟨r1, b1⟩
  obtain ⟨g1, cap1, e1, _⟩ := r1
  subst e1
  rw [← HN.out] at K2 HR1 ⊢
  clear b1 KR
  go_wp2_with fail
  refine K2.mono ?_
  rintro e w2 ⟨u2, Us, rfl, g2, b2⟩
  have HG2 : Hid (Gt w2 w1.heap.size u2 Us (uf s) ∧ Below w1.heap.size w1 w2) := ⟨g2, b2⟩
  obtain ⟨a2, c2, e2⟩ := own_slice g2.own
  subst e2
  have K3 := runpack_any w2 _ s (HV.out.keep (ch HR1.out.2 b2))
  unfold RuPost at K3
  clear g2 b2 K2
  obtain ⟨m, em⟩ : ∃ m, m = (uf s).length := ⟨_, rfl⟩
  have HM : Hid (m = (uf s).length) := em
  obtain ⟨E, eE⟩ : ∃ E, E = ufE s := ⟨_, rfl⟩
  rw [← em] at HG2 ⊢
  rw [← eE] at K3 ⊢
  clear em eE
  go_wp2_with fail
  refine K3.mono ?_
  rintro e w3 ⟨u3, Us3, rfl, g3, b3⟩
  have HG3 : Hid (Gr w3 w2.heap.size u3 Us3 (uf s) ∧ Below w2.heap.size w2 w3) := ⟨g3, b3⟩
  obtain ⟨a3, c3, e3⟩ := own_slice g3.own
  subst e3
  have K4 := same_yes ((HG2.out.1.below b3).lv (by have := HCN.out; omega)) (g3.lv (by have := HCN.out; omega))
  clear g3 b3 K3
  rw [← HM.out] at HG3 K4 ⊢
  go_wp2_with (first
    | (go_at_call 7; refine (KN _ _).mono ?_; rintro e w' ⟨rfl, hw'⟩; subst w')
    | (go_at_call 9; refine K4.mono ?_; rintro e w4 ⟨rfl, b4⟩; have B4 : Hid (Below w1.heap.size w1 w4 ∧ Below w2.heap.size w2 w4 ∧ Below w3.heap.size w3 w4) := ⟨ch HG2.out.2 (ch HG3.out.2 b4), ch HG3.out.2 b4, b4⟩; have K5 := aswas3_any (HV.out.keep (ch HR1.out.2 B4.out.1)) (HR1.out.1.below B4.out.1); clear b4 K4)
    | (go_at_call 14; refine K5.mono ?_; rintro e w5 ⟨rfl, b5⟩; have B5 : Hid (Below w1.heap.size w1 w5 ∧ Below w2.heap.size w2 w5 ∧ Below w3.heap.size w3 w5) := ⟨ch B4.out.1 b5, ch B4.out.2.1 b5, ch B4.out.2.2 b5⟩; clear b5 K5))
  have K6 := unpack_any w5 _ s (HR1.out.1.below B5.out.1).vb
  unfold UnPost at K6
  refine K6.mono ?_
  rintro e w6 ⟨u6, Us6, rfl, g6, b6⟩
  have B6 : Hid (Below w1.heap.size w1 w6 ∧ Below w2.heap.size w2 w6 ∧ Below w3.heap.size w3 w6 ∧ Below w5.heap.size w5 w6) := ⟨ch B5.out.1 b6, ch B5.out.2.1 b6, ch B5.out.2.2 b6, b6⟩
  have HG6 : Hid (Gt w6 w5.heap.size u6 Us6 (uf s)) := g6
  obtain ⟨a6, c6, e6⟩ := own_slice g6.own
  subst e6
  have gl := HG2.out.1.below B6.out.2.1
  have el : Us.length = m := by rw [gl.len]; exact HM.out.symm
  have KA := apart_any4 w6 w1.heap.size a2 c2 Us (fun r => (uf s).getD r []) (by rw [el]; have := gl.own; rwa [← HM.out] at this) (fun r u hu => by
      have hr := (List.getElem?_eq_some_iff.1 hu).1
      have hs := List.getElem?_eq_getElem (l := uf s) (i := r) (by have := gl.len; omega)
      have := (gl.str r u _ hu hs).1
      rw [show (uf s).getD r [] = (uf s)[r]'(by have := gl.len; omega) by rw [List.getD, hs]; rfl]
      exact this.mono (fun _ _ => trivial)) gl.sep (fun r hr => by
      have hs := List.getElem?_eq_getElem (l := uf s) (i := r) (by have := gl.len; omega)
      have hu := List.getElem?_eq_getElem (l := Us) (i := r) hr
      have := (gl.str r _ _ hu hs).2
      rw [show (uf s).getD r [] = (uf s)[r]'(by have := gl.len; omega) by rw [List.getD, hs]; rfl]
      exact this) (by have := HCN.out; have := gl.len; omega)
  rw [el] at KA
  have HBK : Hid (∀ i, Blk Us i → w1.heap.size ≤ i ∧ i < w2.heap.size) := fun i ⟨u, hu, hi⟩ => by
    obtain ⟨r, hr, er⟩ := List.getElem_of_mem hu
    have hs := List.getElem?_eq_getElem (l := uf s) (i := r) (by have := HG2.out.1.len; omega)
    have q := (HG2.out.1.str r u _ (by rw [List.getElem?_eq_getElem hr, er]) hs).1
    exact ⟨q.foot i hi, (q.own.lt i hi).2⟩
  rw [← HM.out] at HG6 ⊢
  clear g6 b6 K6 gl el
  go_wp2_with fail
  refine KA.mono ?_
  rintro e w7 ⟨rfl, t7⟩
  have s1 := HR1.out.2.size
  have s2 := HG2.out.2.size
  have s5 := B5.out.2.1.size
  have s6 := B6.out.2.2.2.size
  have HR7 := HR1.out.1.below B6.out.1
  have R7 : Ry (fun q => w.heap.size ≤ q ∧ q < w1.heap.size) w7 (.slice (some ⟨g1, 0, none⟩) n cap1) s := HR7.same (fun i hi hlt => t7.block i hlt (fun z => by have := HBK.out i z; omega))
  have V7 := HV.out.turn (ch HR1.out.2 B6.out.1) t7 (fun i z => by have := HBK.out i z; omega)
  have K8 := aswas3_any V7 R7
  have G6 : Gt w7 w5.heap.size (.slice a6 m c6) Us6 (uf s) := HG6.out.turn t7 (fun i z => by have := HBK.out i z; omega)
  have G3 : Gr w7 w2.heap.size (.slice a3 m c3) Us3 (uf s) := (HG3.out.1.below B6.out.2.2.1).turn t7 (fun i z => by have := HBK.out i z; omega)
  have HL : Hid (Lv w7 (.slice a6 m c6) (uf s) ∧ Lv w7 (.slice a3 m c3) (uf s)) := ⟨G6.lv (by have := HCN.out; omega), G3.lv (by have := HCN.out; omega)⟩
  have B7 : Hid (Below w.heap.size w w7) := (ch HR1.out.2 B6.out.1).trans (t7.below (fun i z => by have := HBK.out i z; omega) (by omega))
  have KK := known_any
  clear G6 G3 HR7 R7 V7 t7 KA s1 s2 s5 s6
  go_wp2_with (first
    | (go_at_call 14; refine K8.mono ?_; rintro e w8 ⟨rfl, b8⟩; have K9 := same_yes (HL.out.1.keep b8) (HL.out.2.keep b8); have B8 : Hid (Below w.heap.size w w8) := ch B7.out b8; clear b8 K8)
    | (go_at_call 9; refine K9.mono ?_; rintro e w9 ⟨rfl, b9⟩; have B9 : Hid (Below w.heap.size w w9) := ch B8.out b9; clear b9 K9)
    | (go_at_call 10; refine (KK _).mono ?_; rintro e w10 ⟨rfl, b10⟩; have B10 : Hid (Below w.heap.size w w10) := ch B9.out b10; clear b10))
  go_ret
  exact ⟨rfl, B10.out⟩
end Go.Proofs.Ytledfigfokoiiaa
