import Derived.Test.YtdffoghdbfddmaaGreatDoorYezz
import Derived.Test.YtdffoghdbfddmaaGreatDoorCt2zz
import Derived.Test.YtdffoghdbfddmaaGreatDoorFjzz
/-
  cairnlaw24.DiffTurns: the law's own copy.
-/
namespace Go.Sy
open Go Go.Ev
theorem At.kpN {s0 s : St} {q : Option Addr} {cs : List Value} (h : At s0 q cs) (w : Wf s0) (k : Kp (fun c => s0.nx ≤ c) s0 s) : At s q cs := by
  obtain ⟨γ, h4, h5⟩ := At.sl h
  exact (h4.kp w k (by have := h5 w; omega)).at
end Go.Sy
namespace Go.Proofs.YtdffoghdbfddmaaGreatDoor
open Go Go.Ev Go.Sy
set_option maxRecDepth 100000
variable {s : St} {q r : Option Addr} {c d : Nat}
theorem kup {s s' : St} (k : Kn s s') : Kp (fun c => s.nx ≤ c) s s' := k.mono fun _ e => e.elim
/-- Differences whose lists are the law's own, with marks. -/
def OwnD (s : St) (P : Nat → Prop) (L : List Dl) : Prop := ∀ d ∈ L, ∃ g1 g2 g3, Own s d.k d.x.K mk4 g1 ∧ Own s d.o d.x.O mk4 g2 ∧ Own s d.v d.x.V mk4 g3 ∧ P g1 ∧ P g2 ∧ P g3
theorem OwnD.ok {s : St} {P : Nat → Prop} {L : List Dl} (h : OwnD s P L) : ∀ x ∈ L, DlOk s x := fun x hx => let ⟨_, _, _, h1, h2, h3, _⟩ := h x hx; ⟨h1.bs, h2.bs, h3.bs⟩
theorem OwnD.kp {C P : Nat → Prop} {s s' : St} {L : List Dl} (h : OwnD s P L) (w : Wf s) (k : Kp C s s') (hC : ∀ g, P g → g < s.nx → ¬ C g) : OwnD s' P L := fun x hx =>
  let ⟨g1, g2, g3, h1, h2, h3, p1, p2, p3⟩ := h x hx
  ⟨g1, g2, g3, h1.kp w k (hC _ p1 (h1.ltn w)), h2.kp w k (hC _ p2 (h2.ltn w)), h3.kp w k (hC _ p3 (h3.ltn w)), p1, p2, p3⟩
theorem OwnD.imp {P P' : Nat → Prop} {s : St} {L : List Dl} (w : Wf s) (h : OwnD s P L) (hp : ∀ g, P g → g < s.nx → P' g) : OwnD s P' L := fun x hx =>
  let ⟨g1, g2, g3, h1, h2, h3, p1, p2, p3⟩ := h x hx
  ⟨g1, g2, g3, h1, h2, h3, hp _ p1 (h1.ltn w), hp _ p2 (h2.ltn w), hp _ p3 (h3.ltn w)⟩
/-- The law's copy of what it was given. -/
structure Inn (s0 s : St) (q : Option Addr) (n c γ : Nat) (L : List Dl) : Prop where
  kn : Kn s0 s
  gw : Gw s q n c 5 (dcs L) γ
  ow : OwnD s (fun g => q ≠ none → g ≠ γ) L
  lo : q ≠ none → s0.nx ≤ γ
theorem gcs_length : ∀ M : List Gc, (gcs M).length = M.length * 3
  | [] => rfl
  | p :: M => by
    show (gcs M).length + 1 + 1 + 1 = (M.length + 1) * 3
    rw [gcs_length M]; omega
theorem gcs_get : ∀ {M : List Gc} {i : Nat} {p : Gc}, M[i]? = some p → ((gcs M).drop (i * 3)).take 3 = [p.1.v, p.2.1.v, .bool p.2.2]
  | [], i, x, h => by simp at h
  | y :: l, 0, x, h => by cases h; rfl
  | y :: l, i + 1, x, h => by
    show ((y.1.v :: y.2.1.v :: _ :: gcs l).drop _).take 3 = _
    rw [show (i + 1) * 3 = i * 3 + 1 + 1 + 1 by omega, List.drop_succ_cons, List.drop_succ_cons, List.drop_succ_cons]; exact gcs_get (M := l) h
/-- One change's cells, as they are loaded. -/
theorem gc_ld {s : St} {lo : Nat} {q : Option Addr} {M : List Gc} {i : Nat} {p : Gc} (ha : At s q (gcs M)) (F : Fc s lo (gfl M)) (h : M[i]? = some p) :
    good q ∧ ldq s (qadd (qadd q (i * 3)) 0) = some (.slice p.1.q p.1.A.length p.1.c) ∧ ldq s (qadd (qadd q (i * 3)) 1) = some (.slice p.2.1.q p.2.1.A.length p.2.1.c) ∧ ldq s (qadd (qadd q (i * 3)) 2) = some (.bool p.2.2) ∧ Bs s p.1.q p.1.A ∧ Bs s p.2.1.q p.2.1.A := by
  have hi : i < M.length := (List.getElem?_eq_some_iff.1 h).1
  have hl := gcs_length M
  have hg := gcs_get h
  have hc : ∀ j, j < 3 → (gcs M)[i * 3 + j]? = [p.1.v, p.2.1.v, Value.bool p.2.2][j]? := fun j hj => by rw [← hg, List.getElem?_take_of_lt hj, List.getElem?_drop]
  have ld : ∀ j, j < 3 → ldq s (qadd (qadd q (i * 3)) j) = [p.1.v, p.2.1.v, Value.bool p.2.2][j]? := fun j hj => by
    rw [qadd_qadd, At.ld ha (i := i * 3 + j) (by omega), ← List.getElem?_eq_getElem]; exact hc j hj
  have hm : ∀ y ∈ [p.1, p.2.1], y ∈ gfl M := fun y hy => List.mem_flatMap.2 ⟨p, List.mem_of_getElem? h, hy⟩
  exact ⟨At.good ha (i := i * 3) (by omega), ld 0 (by decide), ld 1 (by decide), ld 2 (by decide), (F.ok _ (hm p.1 (by simp))).gw.sl.at, (F.ok _ (hm p.2.1 (by simp))).gw.sl.at⟩
theorem fl3_ddl (M : List Gd) : fl3 (ddl M) = (dfl M).map Ce.v := by
  unfold fl3 ddl dfl
  rw [List.flatMap_map, List.map_flatMap]; rfl
theorem gfl_length : ∀ M : List Gc, (gfl M).length = M.length * 2
  | [] => rfl
  | p :: M => by
    show (gfl M).length + 1 + 1 = (M.length + 1) * 2
    rw [gfl_length M]; omega
theorem dfl_length : ∀ M : List Gd, (dfl M).length = M.length * 3
  | [] => rfl
  | p :: M => by
    show (dfl M).length + 1 + 1 + 1 = (M.length + 1) * 3
    rw [dfl_length M]; omega
theorem gfl_take {M : List Gc} {i : Nat} {p : Gc} (h : M[i]? = some p) : (gfl (M.take (i + 1))).map Ce.v = (gfl (M.take i)).map Ce.v ++ [p.1.v, p.2.1.v] := by
  rw [(take_at h).2.1, gfl_app, List.map_append]; rfl
set_option maxHeartbeats 1600000 in
theorem law_ok {l : List Dl} {n : Nat} (hn : l.length = n) (w : Wf s) (ha : At s q (dcs l)) (hk : ∀ x ∈ l, DlOk s x) (hl : n * 80 ≤ 140737488351232) (hT : TabAt s) (hm : ∀ x ∈ l, x.x.K.length ≤ 140737488351232 ∧ x.x.O.length ≤ 140737488351232 ∧ x.x.V.length ≤ 140737488351232) :
    Cl B (.call 3 [.slice q n c]) s fun v _ => v = .bool true := by
  refine Cl.enter Tryz.f3 fn3 rfl rfl rfl ?_
  refine run1 ?_
  refine W.loop (α := Nat × St × (Option Addr × Nat × Nat) × List Dl) (fun p => [(0, .slice q n c), (3, .slice p.2.2.1.1 p.1 p.2.2.1.2.1), (12, .slice q n c), (13, nI n), (14, nI p.1)]) (fun _ => []) (fun p => p.2.1)
    (fun p => p.1 ≤ n ∧ Inn s p.2.1 p.2.2.1.1 p.1 p.2.2.1.2.1 p.2.2.1.2.2 p.2.2.2 ∧ dxs p.2.2.2 = (dxs l).take p.1)
    (fun p => n - p.1) (0, s, (none, 0, 0), []) ⟨Nat.zero_le _, ⟨.refl, Gw.nil, fun x hx => by simp at hx, fun h => absurd rfl h⟩, rfl⟩ (.cons rfl (.cons rfl (.cons rfl (.cons rfl (.cons rfl .nil))))) rfl rfl (by show n - 0 < _; omega) ?_
  rintro ⟨i, s1, ⟨qo, co, γo⟩, L⟩ ⟨k1, k3, k4⟩
  dsimp only at k1 k3 k4 ⊢
  have k2 := k3.kn
  have w1 := k2.wf w
  by_cases hi : i < n
  · obtain ⟨x, hx⟩ := at_lt (l := l) (k := i) (by omega)
    obtain ⟨q1, c1, q2, c2, q3, c3, _, gq, ldx, _, b1, b2, b3⟩ := dl_ld (ha.kn w k2) (fun y hy => (hk y hy).kn w k2) hx
    obtain ⟨m1, m2, m3⟩ := hm x (List.mem_of_getElem? hx)
    refine run1 ?_
    refine Wo.st rfl rfl rfl rfl rfl rfl rfl (by intro v hv; simp only [List.mem_cons, List.not_mem_nil, or_false] at hv; rcases hv with rfl | rfl | rfl | rfl | rfl <;> rfl) mkRow_rw (by decide) ?_
    intro s2 j1 j2 j3
    have kn2 : Kn s1 s2 := Kn.app mkRow_kn j3 (Nat.le_refl _)
    have w2 := kn2.wf w1
    have R2 : Rw s2 s1.nx [.slice q1 x.x.K.length c1, .slice q2 x.x.O.length c2, .slice q3 x.x.V.length c3, .bool x.x.was, .bool x.x.is] s1.nx := j1
    obtain ⟨gl, l0, l1, l2, l3, l4⟩ := loc5 R2
    refine run1 ?_
    refine W.dr [(1, .none, 0), (2, .reads, 2), (3, .acts, 6), (4, .none, 0), (5, .reads, 16), (6, .acts, 62), (7, .none, 0), (8, .reads, 128), (9, .acts, 510), (0, .none, 0), (10, .none, 0), (11, .reads, 1024), (12, .none, 0), (13, .reads, 4096), (14, .none, 16382), (15, .makes, 32766), (16, .acts, 65535), (17, .none, 131071)] (by kernel_rfl) rfl ?_
    refine run1 ?_
    refine Wd.call rfl (Xc.call ok4 rfl) rfl ((roomy_ok w2 (b1.kn w1 kn2) (by omega)).mono ?_)
    rintro v1 s3 ⟨g1, o1, kn3, lo1⟩
    refine ⟨kn3.le, ?_⟩
    have w3 := kn3.wf w2
    have R3 := R2.kp w2 kn3 id
    obtain ⟨_, l0', l1', l2', l3', l4'⟩ := loc5 R3
    refine run1 ?_
    refine Wd.call rfl (Xc.call ok4 rfl) rfl ((roomy_ok w3 ((b2.kn w1 kn2).kn w2 kn3) (by omega)).mono ?_)
    rintro v2 s4 ⟨g2, o2, kn4, lo2⟩
    refine ⟨kn4.le, ?_⟩
    have w4 := kn4.wf w3
    have R4 := R3.kp w3 kn4 id
    obtain ⟨_, l0'', l1'', l2'', l3'', l4''⟩ := loc5 R4
    refine run1 ?_
    refine Wd.call rfl (Xc.call ok4 rfl) rfl ((roomy_ok w4 (((b3.kn w1 kn2).kn w2 kn3).kn w3 kn4) (by omega)).mono ?_)
    rintro v3 s5 ⟨g3, o3, kn5, lo3⟩
    refine ⟨kn5.le, ?_⟩
    have w5 := kn5.wf w4
    have R5 := R4.kp w4 kn5 id
    obtain ⟨_, l05, l15, l25, l35, l45⟩ := loc5 R5
    have o1' := (o1.kp w3 kn4 id).kp w4 kn5 id
    have o2' := o2.kp w4 kn5 id
    obtain ⟨ba, ca, ea, _⟩ := o1'.ex
    obtain ⟨bb, cb, eb, _⟩ := o2'.ex
    obtain ⟨bc, cc, ec, _⟩ := o3.ex
    subst ea eb ec
    refine run1 ?_
    refine Wd.read rfl (Xv.ld rfl rfl rfl l35) rfl eqV_bool ⟨Xv.ld rfl rfl rfl l35, Xv.ld rfl rfl rfl l3'', Xv.ld rfl rfl rfl l3', Xv.ld rfl rfl rfl l3, trivial⟩ (run1 ?_)
    refine Wd.read rfl (Xv.ld rfl rfl rfl l45) rfl eqV_bool ⟨Xv.ld rfl rfl rfl l45, Xv.ld rfl rfl rfl l4'', Xv.ld rfl rfl rfl l4', Xv.ld rfl rfl rfl l4, trivial⟩ (run1 ?_)
    refine Wd.val rfl (Xv.build (cs := [.slice (some ⟨ba, 0, none⟩) x.x.K.length ca, .slice (some ⟨bb, 0, none⟩) x.x.O.length cb, .slice (some ⟨bc, 0, none⟩) x.x.V.length cc, .bool x.x.was, .bool x.x.is]) rfl (by generalize x.x.is = g; generalize x.x.was = g'; cases g <;> cases g' <;> rfl)) rfl (Nat.le_refl _) ?_
    refine run1 ?_
    have k15 : Kn s1 s5 := kn2.trans (kn3.trans (kn4.trans kn5))
    have hlo := k2.le
    have n2 := kn2.le
    have n3 := kn3.le
    have n4 := kn4.le
    have n5 := kn5.le
    refine Wd.app2 rfl rfl rfl rfl rfl rfl rfl rfl rfl (mkRow_wf w5) ((k3.gw.keep w1 k15 fun _ => id).keep w5 mkRow_kn fun _ => id) rfl (cells_at mkRow_sl.at rfl (by decide)) rfl (by intro v hv; simp only [List.mem_cons, List.not_mem_nil, or_false] at hv; rcases hv with rfl | rfl | rfl | rfl | rfl <;> rfl) rfl (by omega) (by omega) ?_
    intro q5 cn γ5 s7 G5 K5 h5
    refine run1 ?_
    obtain ⟨X, hX⟩ : ∃ X : Dl, X = ⟨.slice (some ⟨ba, 0, none⟩) x.x.K.length ca, .slice (some ⟨bb, 0, none⟩) x.x.O.length cb, .slice (some ⟨bc, 0, none⟩) x.x.V.length cc, x.x⟩ := ⟨_, rfl⟩
    have wr := mkRow_wf (cs := [.slice (some ⟨ba, 0, none⟩) x.x.K.length ca, .slice (some ⟨bb, 0, none⟩) x.x.O.length cb, .slice (some ⟨bc, 0, none⟩) x.x.V.length cc, .bool x.x.was, .bool x.x.is]) w5
    have hγ : qo ≠ none → γo < s1.nx := fun h => k3.gw.ltn w1 h
    have hD5 : OwnD s5 (fun g => qo ≠ none → g ≠ γo) (L ++ [X]) := fun y hy => by
      rcases List.mem_append.1 hy with hy | hy
      · exact (k3.ow.kp w1 k15 fun _ _ _ => id) y hy
      · rw [List.mem_singleton] at hy
        rw [hy, hX]
        exact ⟨g1, g2, g3, o1', o2', o3, fun h => by have := hγ h; omega, fun h => by have := hγ h; omega, fun h => by have := hγ h; omega⟩
    have hD : OwnD s7 (fun g => q5 ≠ none → g ≠ γ5) (L ++ [X]) := (hD5.imp w5 (P' := fun g => (qo ≠ none → g ≠ γo) ∧ g < s5.nx) fun g h1 h2 => ⟨h1, h2⟩).kp w5 mkRow_kn (fun _ _ _ => id) |>.kp wr K5 (fun g h _ e => h.1 e.1 e.2) |>.imp (K5.wf wr) fun g h _ _ => by
      rcases h5 with ⟨e, h'⟩ | h'
      · rw [h']; exact h.1 e
      · rw [h']; exact Nat.ne_of_lt (Nat.lt_succ_of_lt h.2)
    refine rnd.n (i + 1, s7, (q5, cn, γ5), L ++ [X]) ⟨hi, ⟨?_, ?_, hD, fun _ => ?_⟩, ?_⟩ (by show n - (i + 1) < n - i; omega) (.cons rfl (.cons rfl (.cons rfl (.cons rfl (.cons rfl .nil))))) rfl rfl
    · exact Kp.new ((k2.trans k15).trans mkRow_kn) (K5.mono fun c e => by rw [e.2]; exact k3.lo e.1) (Nat.le_refl _)
    · show Gw s7 q5 (i + 1) cn 5 (dcs (L ++ [X])) γ5
      rw [dcs_app, hX]; exact G5
    · show s.nx ≤ γ5
      rcases h5 with ⟨e, h⟩ | h
      · rw [h]; exact k3.lo e
      · rw [h]; show s.nx ≤ s5.nx + 1; omega
    · show dxs (L ++ [X]) = _
      have hxi : (dxs l)[i]? = some x.x := by unfold dxs; rw [List.getElem?_map, hx]; rfl
      rw [dxs_app, k4, (take_at hxi).2.1, hX]; rfl
  have hie : i = n := by omega
  subst hie
  rw [List.take_of_length_le (by unfold dxs; rw [List.length_map]; omega)] at k4
  have hLn : L.length = i := by have := congrArg List.length k4; unfold dxs at this; rw [List.length_map, List.length_map] at this; omega
  have AL : At s1 qo (dcs L) := k3.gw.sl.at
  have okL := k3.ow.ok
  have hmL : ∀ x ∈ L, x.x.K.length ≤ 140737488351232 ∧ x.x.O.length ≤ 140737488351232 ∧ x.x.V.length ≤ 140737488351232 := fun x hx => by
    have : x.x ∈ dxs l := by rw [← k4]; exact List.mem_map_of_mem hx
    obtain ⟨y, hy, e⟩ := List.mem_map.1 this
    have := hm y hy
    rw [e] at this; exact this
  refine run1 ?_
  -- the program's answers
  refine Wo.call rfl (Xc.call ok5 rfl) rfl ((pchanges_ok hLn w1 AL okL hl hmL).mono ?_)
  rintro v s2 ⟨q2, c2, γ2, M2, rfl, G2, e2, kn2⟩
  have w2 := kn2.wf w1
  refine run1 ?_
  refine Wo.call rfl (Xc.call ok6 rfl) rfl ((pback_ok hLn w2 (AL.kn w1 kn2) (fun x hx => (okL x hx).kn w1 kn2) hl hmL).mono ?_)
  rintro v s3 ⟨q3, c3, γ3, M3, rfl, G3, e3, kn3⟩
  have w3 := kn3.wf w2
  have k13 := kn2.trans kn3
  have k03 := k2.trans k13
  refine run1 ?_
  refine Wo.call rfl (Xc.call ok7 rfl) rfl ((rchanges_ok hn w3 (ha.kn w k03) (fun x hx => (hk x hx).kn w k03) hl hm).mono ?_)
  rintro v s4 ⟨q4, c4, γ4, M4, rfl, G4, e4, kn4⟩
  have w4 := kn4.wf w3
  have k04 := k03.trans kn4
  have hii : ¬ i ≠ i := fun h => h rfl
  refine run1 ?_
  refine Wo.call (gT' rfl hii) (Xc.call ok9 rfl) rfl ((rback_ok hn w4 (ha.kn w k04) (fun x hx => (hk x hx).kn w k04) hl hm).mono ?_)
  rintro v s5 ⟨q5, c5, γ5, M5, rfl, G5, e5, kn5⟩
  have w5 := kn5.wf w4
  have k35 := kn4.trans kn5
  have k25 := kn3.trans k35
  have k15 := kn2.trans k25
  have len3 : (ddl M3).length = i := by have := congrArg List.length e3; unfold dxs at this; rw [List.length_map, List.length_map, List.length_map] at this; omega
  have G35 := G3.kn w3 k35
  refine run1 ?_
  refine Wo.call (gT' rfl hii) (Xc.call ok8 rfl) rfl ((dsame_ok len3 (by rw [e5, e3, k4]) G35.at (dfl_ok G35.fc) G5.at (dfl_ok G5.fc) hl).mono ?_)
  rintro v s' ⟨rfl, e'⟩
  rw [e']; clear e' s'
  refine run1 ?_
  -- the changes, one by one
  have hc24 : gxs M2 = gxs M4 := by rw [e2, e4, k4]
  have len2 : M2.length = i := by have := congrArg List.length e2; unfold gxs dxs at this; rw [List.length_map, List.length_map, List.length_map] at this; omega
  have len4 : M4.length = i := by have := congrArg List.length e4; unfold gxs dxs at this; rw [List.length_map, List.length_map, List.length_map] at this; omega
  have G25 := G2.kn w2 k25
  have G45 := G4.kn w4 kn5
  refine W.loop (α := Nat × St × (Option Addr × Nat × Nat)) (fun p => [(0, .slice q i c), (3, .slice qo i co), (6, .slice q2 i c2), (7, .slice q3 i c3), (8, .slice q4 i c4), (9, .slice p.2.2.1 (p.1 * 2) p.2.2.2.1), (55, nI i), (56, nI p.1)]) (fun _ => []) (fun p => p.2.1)
    (fun p => p.1 ≤ i ∧ Kn s5 p.2.1 ∧ Gw p.2.1 p.2.2.1 (p.1 * 2) p.2.2.2.1 1 ((gfl (M2.take p.1)).map Ce.v) p.2.2.2.2 ∧ (p.2.2.1 ≠ none → s5.nx ≤ p.2.2.2.2))
    (fun p => i - p.1) (0, s5, (none, 0, 0)) ⟨Nat.zero_le _, .refl, Gw.nil, fun h => absurd rfl h⟩ (.cons rfl (.cons rfl (.cons rfl (.cons rfl (.cons rfl (.cons rfl (.cons rfl (.cons rfl .nil)))))))) rfl rfl (by show i - 0 < _; omega) ?_
  rintro ⟨j, s6, qa, ca, γa⟩ ⟨u1, u2, u3, u4⟩
  dsimp only at u1 u2 u3 u4 ⊢
  have w6 := u2.wf w5
  by_cases hj : j < i
  · obtain ⟨p, hp⟩ := at_lt (l := M2) (k := j) (by omega)
    obtain ⟨p', hp'⟩ := at_lt (l := M4) (k := j) (by omega)
    have epp : (p.1.A, p.2.1.A, p.2.2) = (p'.1.A, p'.2.1.A, p'.2.2) := by
      have := congrArg (fun L => L[j]?) hc24
      unfold gxs at this
      rw [List.getElem?_map, List.getElem?_map, hp, hp'] at this
      injection this
    injection epp with f1 epp
    injection epp with f2 f3
    have G26 := G25.kn w5 u2
    have G46 := G45.kn w5 u2
    obtain ⟨gq, l0, l1, l2, b1, b2⟩ := gc_ld G26.at G26.fc hp
    obtain ⟨gr, n0, n1, n2, d1, d2⟩ := gc_ld G46.at G46.fc hp'
    have v1 : ¬ strB p.1.A ≠ strB p'.1.A := fun h => h (by rw [f1])
    have v2 : ¬ strB p.2.1.A ≠ strB p'.2.1.A := fun h => h (by rw [f2])
    rw [← f3] at n2
    refine run1 ?_
    refine W.dr [(0, .none, 0), (1, .none, 0), (2, .none, 3), (3, .none, 7), (4, .reads, 15), (5, .reads, 31), (6, .none, 0), (7, .none, 0), (8, .none, 192), (9, .none, 448), (10, .reads, 960), (11, .reads, 1984), (12, .none, 4095), (13, .none, 8191), (14, .none, 16383), (15, .none, 16383), (16, .none, 65535), (17, .none, 131071), (18, .reads, 262143), (19, .reads, 524287), (20, .none, 16383), (21, .none, 16383), (22, .none, 3162111), (23, .none, 7356415), (24, .reads, 15745023), (25, .reads, 32522239), (26, .none, 67108863), (27, .none, 134217727), (28, .none, 268435455), (29, .none, 536870911), (30, .none, 536870911), (31, .none, 2147483647), (32, .none, 4294967295), (33, .reads, 8589934591), (34, .none, 536870911), (35, .none, 536870911), (36, .none, 52076478463), (37, .none, 120795955199), (38, .reads, 258234908671), (39, .none, 549755813887), (40, .none, 1099511627775)] (by kernel_rfl) rfl ?_
    refine run1 ?_
    refine Wd.read rfl (Xv.b2s rfl rfl rfl rfl b1) rfl eqV_str ⟨Xv.b2s rfl rfl rfl rfl b1, trivial⟩ (run1 ?_)
    refine Wd.read rfl (Xv.b2s rfl rfl rfl rfl d1) rfl eqV_str ⟨Xv.b2s rfl rfl rfl rfl d1, trivial⟩ (run1 ?_)
    refine Wd.val rfl (Xv.sne rfl rfl) rfl (Nat.le_refl _) (run1 ?_)
    refine Wd.read (gT' rfl v1) (Xv.b2s rfl rfl rfl rfl b2) rfl eqV_str ⟨Xv.b2s rfl rfl rfl rfl b2, trivial⟩ (run1 ?_)
    refine Wd.read (gT' rfl v1) (Xv.b2s rfl rfl rfl rfl d2) rfl eqV_str ⟨Xv.b2s rfl rfl rfl rfl d2, trivial⟩ (run1 ?_)
    refine Wd.val (gT' rfl v1) (Xv.sne rfl rfl) rfl (Nat.le_refl _) (run1 ?_)
    refine Wd.val (gT' rfl v2) (Xv.neB rfl rfl (B.un (t := 4) rfl)) rfl (Nat.le_refl _) (run1 ?_)
    refine W.dr [(0, .none, 0), (1, .none, 0), (2, .none, 0), (3, .none, 6), (4, .none, 14), (5, .reads, 30), (6, .none, 0), (7, .none, 0), (8, .none, 192), (9, .none, 448), (10, .reads, 960), (11, .makes, 2046), (12, .acts, 4095), (13, .none, 8191)] (by kernel_rfl) rfl ?_
    refine run1 ?_
    refine Wd.app2 rfl rfl rfl rfl rfl rfl rfl rfl rfl (mkRow_wf w6) (u3.keep w6 mkRow_kn fun _ => id) rfl (cells_at mkRow_sl.at rfl (by decide)) rfl (by intro v hv; simp only [List.mem_cons, List.not_mem_nil, or_false] at hv; rcases hv with rfl | rfl <;> rfl) rfl (by omega) (by omega) ?_
    intro qz cz γz s7 G7 K7 h7
    refine run1 ?_
    have n6 := u2.le
    refine rnd.n (j + 1, s7, qz, cz, γz) ⟨hj, ?_, ?_, fun _ => ?_⟩ (by show i - (j + 1) < i - j; omega) (.cons rfl (.cons rfl (.cons rfl (.cons rfl (.cons rfl (.cons (by show some (Value.slice qz (j * 2 + 2) cz) = some (.slice qz ((j + 1) * 2) cz); rw [Nat.succ_mul]) (.cons rfl (.cons rfl .nil)))))))) rfl rfl
    · exact Kp.new (u2.trans mkRow_kn) (K7.mono fun c e => by rw [e.2]; exact u4 e.1) (Nat.le_refl _)
    · show Gw s7 qz ((j + 1) * 2) cz 1 ((gfl (M2.take (j + 1))).map Ce.v) γz
      rw [gfl_take hp, Nat.succ_mul]; exact G7
    · show s5.nx ≤ γz
      rcases h7 with ⟨e, h⟩ | h
      · rw [h]; exact u4 e
      · rw [h]; exact Nat.le_succ_of_le n6
  have hje : j = i := by omega
  subst hje
  rw [List.take_of_length_le (by omega)] at u3
  have G36 := G35.kn w5 u2
  refine run1 ?_
  refine Wo.call rfl (Xc.call ok6 rfl) rfl ((pback_ok len3 w6 G36.at (dfl_ok G36.fc) hl ?_).mono ?_)
  · intro x hx
    have : x.x ∈ (dxs L).map bkv := by rw [← e3]; exact List.mem_map_of_mem hx
    obtain ⟨y, hy, ey⟩ := List.mem_map.1 this
    obtain ⟨z, hz, ez⟩ := List.mem_map.1 hy
    have := hmL z hz
    rw [← ey, ← ez]
    exact ⟨this.1, this.2.2, this.2.1⟩
  rintro v s7 ⟨q7, c7, γ7, M7, rfl, G7, e7, kn7⟩
  have w7 := kn7.wf w6
  have k17 := (k15.trans u2).trans kn7
  have A7 : At s7 qo (dcs L) := AL.kn w1 k17
  have e7' : dxs L = dxs (ddl M7) := by
    rw [e7, e3, List.map_map]
    show _ = (dxs L).map (fun x => bkv (bkv x))
    simp only [bkv_bkv, List.map_id']
  have len7 : (ddl M7).length = j := by have := congrArg List.length e7'; unfold dxs at this; rw [List.length_map, List.length_map] at this; omega
  refine run1 ?_
  refine Wo.call rfl (Xc.call ok8 rfl) rfl ((dsame_ok len7 e7' G7.at (dfl_ok G7.fc) A7 (fun x hx => (okL x hx).kn w1 k17) hl).mono ?_)
  rintro v s' ⟨rfl, e'⟩
  rw [e']; clear e' s'
  refine run1 ?_
  -- all lists apart
  have G37 := G36.kn w6 kn7
  refine Wo.call rfl (Xc.call ok11 rfl) rfl ((lists_ok len3 w7 G37.at (dfl_ok G37.fc) hl).mono ?_)
  rintro v s8 ⟨q8, c8, γ8, rfl, G8, lo8, kn8⟩
  have w8 := kn8.wf w7
  refine run1 ?_
  refine Wo.app2 rfl rfl rfl rfl rfl rfl rfl rfl rfl w8 ((u3.keep w6 kn7 fun _ => id).keep w7 kn8 fun _ => id) rfl (cells_at G8.sl.at (by rw [G8.len]) (by decide)) G8.len (fun v hv => ?_) rfl (by omega) (by omega) ?_
  · rw [fl3_ddl] at hv
    obtain ⟨y, _, rfl⟩ := List.mem_map.1 hv
    rfl
  intro q9 c9 γ9 s9 G9 K9 h9
  have w9 := K9.wf w8
  rw [fl3_ddl, ← List.map_append] at G9
  have n5 := k15.le
  have n6 := u2.le
  have n7 := kn7.le
  have n8 := kn8.le
  have n9 := K9.le
  have n3 := kn3.le
  have n2 := kn2.le
  have n35 := k35.le
  have K59 : Kp (fun c => s5.nx ≤ c) s5 s9 := (kup ((u2.trans kn7).trans kn8)).trans (K9.mono fun c e => by rw [e.2]; exact u4 e.1)
  have F2 : Fc s9 s1.nx (gfl M2) := (G25.kpN w5 K59).fc
  have F3 : Fc s9 s2.nx (dfl M3) := (G35.kpN w5 K59).fc
  have lt2 : ∀ x ∈ gfl M2, x.q ≠ none → x.γ < s2.nx := fun x hx h => G2.fc.lt w2 hx h
  have lt3 : ∀ x ∈ dfl M3, x.q ≠ none → x.γ < s3.nx := fun x hx h => G3.fc.lt w3 hx h
  have F9 : Fc s9 s1.nx (gfl M2 ++ dfl M3) := F2.app F3 n2 fun x hx y hy a b => by
    have := lt2 x hx a
    have := (F3.ok y hy).lo b
    omega
  have hall : ∀ x ∈ gfl M2 ++ dfl M3, x.q ≠ none → s1.nx ≤ x.γ ∧ x.γ < s5.nx := fun x hx a => by
    refine ⟨(F9.ok x hx).lo a, ?_⟩
    rcases List.mem_append.1 hx with hx | hx
    · have := lt2 x hx a; omega
    · have := lt3 x hx a; omega
  have hγ9 : s5.nx ≤ γ9 := by
    rcases h9 with ⟨a, b⟩ | b
    · rw [b]; exact u4 a
    · omega
  refine run1 ?_
  refine Wo.call rfl (Xc.call ok10 rfl) rfl ((apart_ce w9 (by rw [List.length_append, gfl_length, dfl_length, len2, show M3.length = j by rw [← len3]; unfold ddl; rw [List.length_map]]) G9 F9 (fun x hx a _ => by have := hall x hx a; omega) (by omega) w9.one).mono ?_)
  rintro v sz ⟨rfl, Kz⟩
  have K1z : Kp (fun c => s1.nx ≤ c) s1 sz := (kup k15).trans ((K59.mono fun c h => Nat.le_trans n5 h).trans (Kz.mono fun c h => by
    rcases h with ⟨x, hx, a, rfl⟩ | h
    · exact (hall x hx a).1
    · omega))
  have K0z : Kp (fun c => s.nx ≤ c) s sz := (kup k2).trans (K1z.mono fun c h => Nat.le_trans k2.le h)
  have Az : At sz qo (dcs L) := At.kpN AL w1 K1z
  have Oz : OwnD sz (fun g => qo ≠ none → g ≠ γo) L := k3.ow.kp w1 K1z fun g _ h h' => by omega
  have az : At sz q (dcs l) := At.kpN ha w K0z
  have kz : ∀ x ∈ l, DlOk sz x := fun x hx => (hk x hx).kpN w K0z
  refine run1 ?_
  refine W.loop (α := Nat) (fun p => [(0, .slice q j c), (3, .slice qo j co), (128, nI j), (129, nI p)]) (fun _ => []) (fun _ => sz)
    (fun p => p ≤ j) (fun p => j - p) 0 (Nat.zero_le _) (.cons rfl (.cons rfl (.cons rfl (.cons rfl .nil)))) rfl rfl (by omega) ?_
  intro t ht
  by_cases htj : t < j
  · obtain ⟨x, hx⟩ := at_lt (l := l) (k := t) (by omega)
    obtain ⟨y, hy⟩ := at_lt (l := L) (k := t) (by omega)
    have exy : y.x = x.x := by
      have := congrArg (fun L => L[t]?) k4
      unfold dxs at this
      rw [List.getElem?_map, List.getElem?_map, hx, hy] at this
      injection this
    obtain ⟨qk, ck, qo', co', qv, cv, _, gq, _, ⟨l0, l1, l2, _, _⟩, b1, b2, b3⟩ := dl_ld az kz hx
    obtain ⟨rk, dk, ro, dO, rv, dv, ⟨y1, y2, y3⟩, gr, _, ⟨n0', n1', n2', _, _⟩, _, _, _⟩ := dl_ld Az Oz.ok hy
    obtain ⟨m1, m2, m3⟩ := hm x (List.mem_of_getElem? hx)
    obtain ⟨g1, g2, g3, o1, o2, o3, _, _, _⟩ := Oz y (List.mem_of_getElem? hy)
    rw [y1] at o1
    rw [y2] at o2
    rw [y3] at o3
    rw [exy] at o1 o2 o3 n0' n1' n2'
    refine run1 ?_
    refine W.dr [(0, .none, 0), (1, .none, 0), (2, .none, 3), (3, .none, 7), (4, .reads, 15), (5, .none, 0), (6, .none, 0), (7, .none, 96), (8, .none, 224), (9, .reads, 480), (10, .acts, 1023), (11, .none, 2047), (12, .none, 4095), (13, .none, 8191), (14, .none, 8191), (15, .none, 32767), (16, .none, 65535), (17, .reads, 131071), (18, .none, 8191), (19, .none, 8191), (20, .none, 794623), (21, .none, 1843199), (22, .reads, 3940351), (23, .acts, 8388607), (24, .none, 16777215), (25, .none, 33554431), (26, .none, 67108863), (27, .none, 134217727), (28, .none, 134217727), (29, .none, 536870911), (30, .none, 1073741823), (31, .reads, 2147483647), (32, .none, 134217727), (33, .none, 134217727), (34, .none, 13019119615), (35, .none, 30198988799), (36, .reads, 64558727167), (37, .acts, 137438953471), (38, .none, 274877906943), (39, .none, 549755813887)] (by kernel_rfl) rfl ?_
    refine run1 ?_
    refine Wd.call rfl (Xc.call ok12 rfl) rfl ((aswas_ok o1 b1 (by omega)).mono ?_)
    rintro v s' ⟨rfl, e'⟩
    rw [e']; clear e' s'
    refine ⟨Nat.le_refl _, ?_⟩
    refine run1 ?_
    refine Wd.call rfl (Xc.call ok12 rfl) rfl ((aswas_ok o2 b2 (by omega)).mono ?_)
    rintro v s' ⟨rfl, e'⟩
    rw [e']; clear e' s'
    refine ⟨Nat.le_refl _, ?_⟩
    refine run1 ?_
    refine Wd.call rfl (Xc.call ok12 rfl) rfl ((aswas_ok o3 b3 (by omega)).mono ?_)
    rintro v s' ⟨rfl, e'⟩
    rw [e']; clear e' s'
    refine ⟨Nat.le_refl _, ?_⟩
    refine run1 ?_
    exact rnd.n (t + 1) htj (by omega) (.cons rfl (.cons rfl (.cons rfl (.cons rfl .nil)))) rfl rfl
  · refine run1 ?_
    refine Wo.call rfl (Xc.call ok13 rfl) rfl ((fixed_ok (hT.kpN w K0z)).mono ?_)
    rintro v s' ⟨rfl, e'⟩
    rw [e']; clear e' s'
    refine run1 ?_
    exact Lv.ret rfl rfl
end Go.Proofs.YtdffoghdbfddmaaGreatDoor
