import Derived.Test.YtdibpdpcbnijeaaGreatDoorCnzz
import Derived.Test.YtdibpdpcbnijeaaGreatDoorCgzz
import Derived.Test.YtdibpdpcbnijeaaGreatDoorChzz
import Derived.Test.YtdibpdpcbnijeaaGreatDoorCvzz
/-
  cairnref14.Apply, shape.Apply.
-/
namespace Go.Proofs.YtdibpdpcbnijeaaGreatDoor
open Go Go.Ev Go.Sy
set_option maxRecDepth 100000
variable {s s0 : St} {q r : Option Addr} {c d : Nat}
/-- Changes: two cells and a sign each. -/
abbrev Chs := List (El × Bool)
def chl (C : Chs) : List Value := C.flatMap fun x => [x.1.1.1, x.1.1.2, .bool x.2]
theorem chl_length : ∀ C : Chs, (chl C).length = C.length * 3
  | [] => rfl
  | x :: C => by
    show ([x.1.1.1, x.1.1.2, Value.bool x.2] ++ chl C).length = _
    simp only [List.length_append, chl_length C, List.length_cons, List.length_nil]; omega
theorem chl_get : ∀ {C : Chs} {i : Nat} {x : El × Bool}, C[i]? = some x → ((chl C).drop (i * 3)).take 3 = [x.1.1.1, x.1.1.2, .bool x.2]
  | [], i, x, h => by simp at h
  | y :: C, 0, x, h => by cases h; rfl
  | y :: C, i + 1, x, h => by
    have e : chl (y :: C) = y.1.1.1 :: y.1.1.2 :: .bool y.2 :: chl C := rfl
    rw [e, show (i + 1) * 3 = i * 3 + 1 + 1 + 1 by omega, List.drop_succ_cons, List.drop_succ_cons, List.drop_succ_cons]; exact chl_get (C := C) h
/-- What the changes' cells are. -/
def ChOk (s : St) (C : Chs) : Prop := ∀ x ∈ C, BsV s x.1.1.1 x.1.2.1 ∧ BsV s x.1.1.2 x.1.2.2
def may (x : El × Bool) : Prop := May x.1.2.1 x.1.2.2 x.2
instance (x : El × Bool) : Decidable (may x) := inferInstanceAs (Decidable (May _ _ _))
def cety (C : Chs) : List Ety := C.map fun x => x.1.2
open Classical in
noncomputable def aerr (E : List Ety) (C : Chs) : Nat := if ¬ Rgt E then 140 else if ∃ x ∈ C, ¬ may x then 2 else 0
open Classical in
noncomputable def aout (E : List Ety) (C : Chs) : List Ety := if aerr E C = 0 then (cety C).foldl chg E else []
theorem aerr1 {E : List Ety} {C : Chs} (h : ¬ Rgt E) : aerr E C = 140 ∧ aout E C = [] := by
  have : aerr E C = 140 := by unfold aerr; rw [if_pos h]
  exact ⟨this, by unfold aout; rw [if_neg (by rw [this]; decide)]⟩
theorem aerr2 {E : List Ety} {C : Chs} (h : Rgt E) (h2 : ∃ x ∈ C, ¬ may x) : aerr E C = 2 ∧ aout E C = [] := by
  have : aerr E C = 2 := by unfold aerr; rw [if_neg (fun e => e h), if_pos h2]
  exact ⟨this, by unfold aout; rw [if_neg (by rw [this]; decide)]⟩
theorem aerr0 {E : List Ety} {C : Chs} (h : Rgt E) (h2 : ∀ x ∈ C, may x) : aerr E C = 0 ∧ aout E C = (cety C).foldl chg E := by
  have : aerr E C = 0 := by unfold aerr; rw [if_neg (fun e => e h), if_neg fun ⟨x, hx, hn⟩ => hn (h2 x hx)]
  exact ⟨this, by unfold aout; rw [if_pos this]⟩
theorem At.kpN {s0 s : St} {q : Option Addr} {cs : List Value} (h : At s0 q cs) (w : Wf s0) (k : Kp (fun c => s0.nx ≤ c) s0 s) : At s q cs := by
  obtain ⟨γ, h4, h5⟩ := At.sl h
  exact (h4.kp w k (by have := h5 w; omega)).at
theorem ch_ld {s : St} {r : Option Addr} {C : Chs} (hc : At s r (chl C)) (hk : ChOk s C) {i : Nat} {x : El × Bool} (hx : C[i]? = some x) : good r ∧ ∃ q1 c1 q2 c2, x.1.1.1 = .slice q1 x.1.2.1.length c1 ∧ x.1.1.2 = .slice q2 x.1.2.2.length c2 ∧ ldn s (qadd r (i * 3)) 3 = some [.slice q1 x.1.2.1.length c1, .slice q2 x.1.2.2.length c2, .bool x.2] ∧
    ldq s (qadd (qadd r (i * 3)) 0) = some (.slice q1 x.1.2.1.length c1) ∧ ldq s (qadd (qadd r (i * 3)) 1) = some (.slice q2 x.1.2.2.length c2) ∧ ldq s (qadd (qadd r (i * 3)) 2) = some (.bool x.2) ∧ Bs s q1 x.1.2.1 ∧ Bs s q2 x.1.2.2 ∧ x.1.2.1.length < 2 ^ 60 ∧ x.1.2.2.length < 2 ^ 60 := by
  have hl := chl_length C
  have hi : i < C.length := (List.getElem?_eq_some_iff.1 hx).1
  obtain ⟨⟨q1, c1, e1, b1, n1⟩, ⟨q2, c2, e2, b2, n2⟩⟩ := hk x (List.mem_of_getElem? hx)
  have hg := chl_get hx
  have hj : ∀ j, j < 3 → (chl C)[i * 3 + j]? = [x.1.1.1, x.1.1.2, Value.bool x.2][j]? := fun j hj => by rw [← hg, List.getElem?_take_of_lt hj, List.getElem?_drop]
  refine ⟨At.good hc (i := i * 3) (by omega), q1, c1, q2, c2, e1, e2, ?_, ?_, ?_, ?_, b1, b2, n1, n2⟩
  · rw [At.ldn hc (by omega) (by decide), hg, e1, e2]
  · rw [qadd_qadd, At.ld hc (i := i * 3 + 0) (by omega), ← List.getElem?_eq_getElem, hj 0 (by omega), ← e1]; rfl
  · rw [qadd_qadd, At.ld hc (i := i * 3 + 1) (by omega), ← List.getElem?_eq_getElem, hj 1 (by omega), ← e2]; rfl
  · rw [qadd_qadd, At.ld hc (i := i * 3 + 2) (by omega), ← List.getElem?_eq_getElem, hj 2 (by omega)]; rfl
theorem ChOk.kn {s s' : St} {C : Chs} (h : ChOk s C) (w : Wf s) (k : Kn s s') : ChOk s' C := fun x hx => ⟨(h x hx).1.kn w k, (h x hx).2.kn w k⟩
theorem ChOk.kpN {s s' : St} {C : Chs} (h : ChOk s C) (w : Wf s) (k : Kp (fun c => s.nx ≤ c) s s') : ChOk s' C := fun x hx => ⟨(h x hx).1.kpN w k, (h x hx).2.kpN w k⟩
theorem els_ld {s : St} {q : Option Addr} {l : List El} (ha : At s q (cel l)) (hk : ∀ x ∈ l, BsV s x.1.1 x.2.1 ∧ BsV s x.1.2 x.2.2) {i : Nat} {x : El} (hx : l[i]? = some x) : good q ∧ ∃ q1 c1 q2 c2, x.1.1 = .slice q1 x.2.1.length c1 ∧ x.1.2 = .slice q2 x.2.2.length c2 ∧ ldn s (qadd q (i * 2)) 2 = some [.slice q1 x.2.1.length c1, .slice q2 x.2.2.length c2] ∧
    ldq s (qadd (qadd q (i * 2)) 0) = some (.slice q1 x.2.1.length c1) ∧ Bs s q1 x.2.1 ∧ x.2.1.length < 2 ^ 60 := by
  have hl := cel_length l
  have hi : i < l.length := (List.getElem?_eq_some_iff.1 hx).1
  obtain ⟨⟨q1, c1, e1, b1, n1⟩, ⟨q2, c2, e2, b2, n2⟩⟩ := hk x (List.mem_of_getElem? hx)
  have hg := cel_get hx
  refine ⟨At.good ha (i := i * 2) (by omega), q1, c1, q2, c2, e1, e2, ?_, ?_, b1, n1⟩
  · rw [At.ldn ha (by omega) (by decide), hg, e1, e2]
  · rw [qadd_qadd, At.ld ha (i := i * 2 + 0) (by omega), ← List.getElem?_eq_getElem]
    have : (cel l)[i * 2 + 0]? = [x.1.1, x.1.2][0]? := by rw [← hg, List.getElem?_take_of_lt (by decide), List.getElem?_drop]
    rw [this, ← e1]; rfl
set_option maxHeartbeats 1600000 in
theorem rapply_ok {l : List El} {C : Chs} (w : Wf s) (ha : At s q (cel l)) (hk : ∀ x ∈ l, BsV s x.1.1 x.2.1 ∧ BsV s x.1.2 x.2.2) (hc : At s r (chl C)) (hkc : ChOk s C) (hl : l.length + C.length < 2 ^ 38) :
    Cl B (.call 12 [.slice q l.length c, .slice r C.length d]) s fun v s' => ∃ q' c' D, v = .tuple ⟨[.slice q' D.length c', nI (aerr (l.map Prod.snd) C)]⟩ ∧ At s' q' (cel D) ∧ D.map Prod.snd = aout (l.map Prod.snd) C ∧ (∀ x ∈ D, BsV s x.1.1 x.2.1 ∧ BsV s x.1.2 x.2.2) ∧ D.length ≤ l.length + C.length ∧ Kn s s' := by
  refine Cl.enter Tryz.f12 fn12 rfl rfl rfl ?_
  have hml : (l.map Prod.snd).length = l.length := List.length_map _
  refine run1 ?_
  have hr := rright_ok (c := c) ha (cel_ent hk) (by omega)
  rw [hml] at hr
  refine Wo.call rfl (Xc.call ok23 rfl) rfl (hr.mono ?_)
  rintro v s' ⟨⟨b, rfl, hb⟩, rfl⟩
  cases b with
  | false =>
    have hn : ¬ Rgt (l.map Prod.snd) := fun h => by have := hb.2 h; cases this
    obtain ⟨e1, e2⟩ := aerr1 (C := C) hn
    refine run1 ?_
    exact Lv.ret rfl ⟨none, 0, [], by rw [e1]; rfl, .inl ⟨rfl, .inl rfl⟩, by rw [e2]; rfl, by simp, Nat.zero_le _, .refl⟩
  | true =>
  have hR : Rgt (l.map Prod.snd) := hb.1 rfl
  refine run1 ?_
  refine W.loop (α := Nat × St) (fun p => [(0, .slice q l.length c), (1, .slice r C.length d), (6, nI p.1)]) (fun _ => []) (fun p => p.2)
    (fun p => p.1 ≤ C.length ∧ Kn s' p.2 ∧ ∀ x ∈ C.take p.1, may x) (fun p => C.length - p.1) (0, s') ⟨Nat.zero_le _, .refl, by simp⟩ (.cons rfl (.cons rfl (.cons rfl .nil))) rfl rfl (by show C.length - 0 < _; omega) ?_
  rintro ⟨i, s1⟩ ⟨k1, k2, k3⟩
  dsimp only at k1 k2 k3 ⊢
  have w1 := k2.wf w
  by_cases hi : i < C.length
  · obtain ⟨x, hx⟩ := at_lt hi
    obtain ⟨gr, q1, c1, q2, c2, e1, e2, dn, _, _, _, b1, b2, n1, n2⟩ := ch_ld (hc.kn w k2) (hkc.kn w k2) hx
    refine run1 ?_
    refine Wo.call rfl (Xc.call ok24 rfl) rfl ((rmay_ok w1 n1 n2).mono ?_)
    rintro v s2 ⟨rfl, kn2⟩
    by_cases hm : May x.1.2.1 x.1.2.2 x.2
    · refine run1 ?_
      refine rnd.n (i + 1, s2) ⟨hi, k2.trans kn2, fun y hy => ?_⟩ (by show C.length - (i + 1) < C.length - i; omega) (.cons rfl (.cons rfl (.cons rfl .nil))) rfl rfl
      dsimp only at hy
      rw [(take_at hx).2.1] at hy
      rcases List.mem_append.1 hy with hy | hy
      · exact k3 y hy
      · rw [List.mem_singleton] at hy; subst hy; exact hm
    · refine run1 ?_
      obtain ⟨f1, f2⟩ := aerr2 hR ⟨x, List.mem_of_getElem? hx, hm⟩
      exact Lv.ret rfl ⟨none, 0, [], by rw [f1]; rfl, .inl ⟨rfl, .inl rfl⟩, by rw [f2]; rfl, by simp, Nat.zero_le _, k2.trans kn2⟩
  · have hmay : ∀ x ∈ C, may x := by rwa [List.take_of_length_le (by omega)] at k3
    obtain ⟨f1, f2⟩ := aerr0 hR hmay
    have ha1 := ha.kn w k2
    refine run1 ?_
    refine W.loop (α := Nat × St × (Option Addr × Nat) × List El) (fun p => [(1, .slice r C.length d), (7, .slice p.2.2.1.1 p.2.2.2.length p.2.2.1.2), (8, nI p.1)]) (fun _ => []) (fun p => p.2.1)
      (fun p => p.1 ≤ C.length ∧ Kn s' p.2.1 ∧ At p.2.1 p.2.2.1.1 (cel p.2.2.2) ∧ (∀ x ∈ p.2.2.2, BsV s' x.1.1 x.2.1 ∧ BsV s' x.1.2 x.2.2) ∧ p.2.2.2.length ≤ l.length + p.1 ∧ p.2.2.2.map Prod.snd = ((cety C).take p.1).foldl chg (l.map Prod.snd))
      (fun p => C.length - p.1) (0, s1, (q, c), l) ⟨Nat.zero_le _, k2, ha1, hk, Nat.le_refl _, rfl⟩ (.cons rfl (.cons rfl (.cons rfl .nil))) rfl rfl (by show C.length - 0 < _; omega) ?_
    clear k1 k2 k3 hi w1 ha1 i s1
    rintro ⟨i, s1, ⟨ql, cl⟩, D⟩ ⟨k1, k2, k3, k4, k5, k6⟩
    dsimp only at k1 k2 k3 k4 k5 k6 ⊢
    have w1 := k2.wf w
    have hDk : ∀ x ∈ D, BsV s1 x.1.1 x.2.1 ∧ BsV s1 x.1.2 x.2.2 := fun x hx => ⟨(k4 x hx).1.kn w k2, (k4 x hx).2.kn w k2⟩
    by_cases hi : i < C.length
    · obtain ⟨x, hx⟩ := at_lt hi
      have hc1 := hc.kn w k2
      have hkc1 := hkc.kn w k2
      refine run1 ?_
      refine W.loop (α := Nat × St × (Option Addr × Nat × Nat) × List El) (fun p => [(1, .slice r C.length d), (7, .slice ql D.length cl), (8, nI i), (9, .slice p.2.2.1.1 p.2.2.2.length p.2.2.1.2.1), (10, nI p.1)]) (fun _ => []) (fun p => p.2.1)
        (fun p => p.1 ≤ D.length ∧ p.2.2.2.length ≤ p.1 ∧ Gl s1 p.2.1 p.2.2.1.1 p.2.2.1.2.1 p.2.2.1.2.2 p.2.2.2 ∧ p.2.2.2 = (D.take p.1).filter (fun y => decide (y.2.1 ≠ x.1.2.1)))
        (fun p => D.length - p.1) (0, s1, (none, 0, 0), []) ⟨Nat.zero_le _, Nat.le_refl _, ⟨w1, .refl, Gw.nil, fun h => absurd rfl h, by simp⟩, rfl⟩ (.cons rfl (.cons rfl (.cons rfl (.cons rfl (.cons rfl .nil))))) rfl rfl (by show D.length - 0 < _; omega) ?_
      rintro ⟨j, s2, ⟨qo, co, γo⟩, O⟩ ⟨m1, m2, m3, m4⟩
      dsimp only at m1 m2 m3 m4 ⊢
      have w2 := m3.wf
      have hD2 := At.kpN k3 w1 m3.kp
      have hDk2 : ∀ x ∈ D, BsV s2 x.1.1 x.2.1 ∧ BsV s2 x.1.2 x.2.2 := fun x hx => ⟨(hDk x hx).1.kpN w1 m3.kp, (hDk x hx).2.kpN w1 m3.kp⟩
      have hc2 := At.kpN hc1 w1 m3.kp
      have hkc2 := hkc1.kpN w1 m3.kp
      obtain ⟨gr, q1, c1, q2, c2, e1, e2, dn, le0, le1, le2, b1, b2, n1, n2⟩ := ch_ld hc2 hkc2 hx
      by_cases hj : j < D.length
      · obtain ⟨y, hy⟩ := at_lt hj
        obtain ⟨gl, q3, c3, q4, c4, e3, e4, dy, ly, b3, n3⟩ := els_ld hD2 hDk2 hy
        refine run1 ?_
        refine W.dr [(0, .none, 0), (1, .none, 0), (2, .none, 3), (3, .none, 7), (4, .reads, 15), (5, .none, 0), (6, .none, 0), (7, .none, 96), (8, .none, 224), (9, .reads, 480), (10, .acts, 1023), (11, .none, 2047)] (by kernel_rfl) rfl ?_
        refine run1 ?_
        refine Wd.call rfl (Xc.call ok21 rfl) rfl ((same_ok b3 b1 n3 n1).mono ?_)
        rintro v s3 ⟨rfl, rfl⟩
        refine ⟨Nat.le_refl _, ?_⟩
        by_cases he : y.2.1 = x.1.2.1
        · refine run1 ?_
          refine rnd.n (j + 1, s3, (qo, co, γo), O) ⟨hj, by show O.length ≤ j + 1; omega, m3, ?_⟩ (by show D.length - (j + 1) < D.length - j; omega) (.cons rfl (.cons rfl (.cons rfl (.cons rfl (.cons rfl .nil))))) rfl rfl
          show O = (D.take (j + 1)).filter _
          rw [(take_at hy).2.1, List.filter_append, ← m4, show [y].filter (fun y => decide (y.2.1 ≠ x.1.2.1)) = [] by simp [he], List.append_nil]
        · refine run1 ?_
          have w3 : Wf (mkRow s3 [.slice q3 y.2.1.length c3, .slice q4 y.2.2.length c4]) := mkRow_wf w2
          refine Wo.app2 rfl rfl rfl rfl rfl rfl rfl rfl rfl w3 (m3.gw.keep w2 mkRow_kn fun _ => id) rfl (cells_at mkRow_sl.at rfl (by decide)) rfl (by intro v hv; simp only [List.mem_cons, List.not_mem_nil, or_false] at hv; rcases hv with rfl | rfl <;> rfl) rfl (by omega) (by omega) ?_
          intro q5 c5 γ5 s5 G5 K5 hγ5
          have nxm : (mkRow s3 [.slice q3 y.2.1.length c3, .slice q4 y.2.2.length c4]).nx = s3.nx + 1 := rfl
          have nxk := m3.kp.le
          refine run1 ?_
          have eO : cel (O ++ [y]) = cel O ++ [.slice q3 y.2.1.length c3, .slice q4 y.2.2.length c4] := by rw [cel_app, ← e3, ← e4]; rfl
          refine rnd.n (j + 1, s5, (q5, c5, γ5), O ++ [y]) ⟨hj, by show (O ++ [y]).length ≤ j + 1; rw [List.length_append]; show O.length + 1 ≤ j + 1; omega, ⟨w1, ?_, ?_, fun _ => ?_, fun z hz => ?_⟩, ?_⟩ (by show D.length - (j + 1) < D.length - j; omega) (.cons rfl (.cons rfl (.cons rfl (.cons (by show some (Value.slice q5 (O.length + 1) c5) = some (Value.slice q5 (O ++ [y]).length c5); rw [List.length_append]; rfl) (.cons rfl .nil))))) rfl rfl
          · exact (m3.kp.trans (mkRow_kn.mono fun _ e => e.elim)).trans (K5.mono fun c h => by rw [h.2]; exact m3.lo h.1)
          · show Gw s5 q5 (O ++ [y]).length c5 2 (cel (O ++ [y])) γ5
            rw [eO, List.length_append]; exact G5
          · show s1.nx ≤ γ5
            rcases hγ5 with ⟨h, h'⟩ | h
            · rw [h']; exact m3.lo h
            · omega
          · rcases List.mem_append.1 hz with hz | hz
            · exact m3.ks z hz
            · rw [List.mem_singleton] at hz; subst hz; exact hDk z (List.mem_of_getElem? hy)
          · show O ++ [y] = (D.take (j + 1)).filter _
            rw [(take_at hy).2.1, List.filter_append, ← m4, show [y].filter (fun y => decide (y.2.1 ≠ x.1.2.1)) = [y] by simp [he]]
      · rw [List.take_of_length_le (by omega)] at m4
        have hOl : O.length ≤ D.length := by omega
        have hOD : ∀ z ∈ O, z ∈ D := fun z hz => by rw [m4] at hz; exact (List.mem_filter.1 hz).1
        have hmx : may x := hmay x (List.mem_of_getElem? hx)
        have hgv : x.2 = true ↔ x.1.2.2 = [] := by
          rw [hmx.2.2]; exact ⟨List.eq_nil_of_length_eq_zero, fun h => by rw [h]; rfl⟩
        have fin : ∀ (O' : List El) (s4 : St) (qq : Option Addr) (cc γ' : Nat), Gl s1 s4 qq cc γ' O' → O'.length ≤ D.length + 1 → (∀ z ∈ O', BsV s' z.1.1 z.2.1 ∧ BsV s' z.1.2 z.2.2) → O'.map Prod.snd = (D.map Prod.snd).filter (fun y => decide (y.1 ≠ x.1.2.1)) ++ (if x.1.2.2 = [] then [] else [x.1.2]) →
            Cl B (.call 6 [.slice qq O'.length cc]) s4 fun v s5 => ∃ q' c' D', v = .slice q' D'.length c' ∧ Kn s' s5 ∧ At s5 q' (cel D') ∧ (∀ z ∈ D', BsV s' z.1.1 z.2.1 ∧ BsV s' z.1.2 z.2.2) ∧ D'.length ≤ l.length + (i + 1) ∧ D'.map Prod.snd = ((cety C).take (i + 1)).foldl chg (l.map Prod.snd) := fun O' s4 qq cc γ' G h1 h2 h3 => by
          have k14 : Kn s' s4 := Kp.new k2 G.kp k2.le
          have w4 := G.wf
          refine (rsort14_ok w4 G.at (fun z hz => ⟨(h2 z hz).1.kn w k14, (h2 z hz).2.kn w k14⟩) (by omega)).mono ?_
          rintro v s5 ⟨q', c', γ'', D', rfl, g1, g2, g3, g4⟩
          refine ⟨q', c', D', rfl, Kp.new k14 g1.kp k14.le, g1.at, fun z hz => h2 z (g3 z hz), by omega, ?_⟩
          have hce : (cety C)[i]? = some x.1.2 := by unfold cety; rw [List.getElem?_map, hx]; rfl
          rw [g2, h3, (take_at hce).2.1, List.foldl_append, ← k6]; rfl
        have mapO : O.map Prod.snd = (D.map Prod.snd).filter (fun y => decide (y.1 ≠ x.1.2.1)) := by rw [m4, List.filter_map]; rfl
        refine run1 ?_
        refine W.meet (α := St × (Option Addr × Nat × Nat) × List El) (fun p => [(1, .slice r C.length d), (8, nI i), (9, .slice p.2.1.1 p.2.2.length p.2.1.2.1)]) (fun p => p.1) (fun p => Gl s1 p.1 p.2.1.1 p.2.1.2.1 p.2.1.2.2 p.2.2 ∧ p.2.2.length ≤ D.length + 1 ∧ (∀ z ∈ p.2.2, BsV s' z.1.1 z.2.1 ∧ BsV s' z.1.2 z.2.2) ∧ p.2.2.map Prod.snd = (D.map Prod.snd).filter (fun y => decide (y.1 ≠ x.1.2.1)) ++ (if x.1.2.2 = [] then [] else [x.1.2])) ?_ ?_
        · cases hg : x.2 with
          | true =>
            refine run1 ?_
            exact meet.n (s2, (qo, co, γo), O) ⟨m3, by show O.length ≤ D.length + 1; omega, fun z hz => k4 z (hOD z hz), by show O.map Prod.snd = _; rw [mapO, if_pos (hgv.1 hg), List.append_nil]⟩ (.cons rfl (.cons rfl (.cons rfl .nil))) rfl
          | false =>
            have hv : x.1.2.2 ≠ [] := fun h => by have := hgv.2 h; rw [hg] at this; cases this
            refine run1 ?_
            refine W.dr [(0, .none, 0), (1, .none, 0), (2, .none, 0), (3, .none, 6), (4, .none, 14), (5, .reads, 30), (6, .none, 0), (7, .none, 0), (8, .none, 192), (9, .none, 448), (10, .reads, 960), (11, .none, 2046), (12, .makes, 4094), (13, .acts, 8191), (14, .none, 16383)] (by kernel_rfl) rfl ?_
            refine run1 ?_
            have w3 : Wf (mkRow s2 [.slice q1 x.1.2.1.length c1, .slice q2 x.1.2.2.length c2]) := mkRow_wf w2
            refine Wd.app2 rfl rfl rfl rfl rfl rfl rfl rfl rfl w3 (m3.gw.keep w2 mkRow_kn fun _ => id) rfl (cells_at mkRow_sl.at rfl (by decide)) rfl (by intro v hv; simp only [List.mem_cons, List.not_mem_nil, or_false] at hv; rcases hv with rfl | rfl <;> rfl) rfl (by omega) (by omega) ?_
            intro q5 c5 γ5 s5 G5 K5 hγ5
            have nxm : (mkRow s2 [.slice q1 x.1.2.1.length c1, .slice q2 x.1.2.2.length c2]).nx = s2.nx + 1 := rfl
            have nxk := m3.kp.le
            refine run1 ?_
            have eO : cel (O ++ [x.1]) = cel O ++ [.slice q1 x.1.2.1.length c1, .slice q2 x.1.2.2.length c2] := by rw [cel_app, ← e1, ← e2]; rfl
            refine meet.n (s5, (q5, c5, γ5), O ++ [x.1]) ⟨⟨w1, ?_, ?_, fun _ => ?_, fun z hz => ?_⟩, by show (O ++ [x.1]).length ≤ D.length + 1; rw [List.length_append]; show O.length + 1 ≤ D.length + 1; omega, fun z hz => ?_, ?_⟩ (.cons rfl (.cons rfl (.cons (by show some (Value.slice q5 (O.length + 1) c5) = some (Value.slice q5 (O ++ [x.1]).length c5); rw [List.length_append]; rfl) .nil))) rfl
            · exact (m3.kp.trans (mkRow_kn.mono fun _ e => e.elim)).trans (K5.mono fun c h => by rw [h.2]; exact m3.lo h.1)
            · show Gw s5 q5 (O ++ [x.1]).length c5 2 (cel (O ++ [x.1])) γ5
              rw [eO, List.length_append]; exact G5
            · show s1.nx ≤ γ5
              rcases hγ5 with ⟨h, h'⟩ | h
              · rw [h']; exact m3.lo h
              · omega
            · rcases List.mem_append.1 hz with hz | hz
              · exact m3.ks z hz
              · rw [List.mem_singleton] at hz; subst hz; exact hkc1 x (List.mem_of_getElem? hx)
            · rcases List.mem_append.1 hz with hz | hz
              · exact k4 z (hOD z hz)
              · rw [List.mem_singleton] at hz; subst hz; exact hkc x (List.mem_of_getElem? hx)
            · show (O ++ [x.1]).map Prod.snd = _
              rw [List.map_append, mapO, if_neg hv]; rfl
        · rintro ⟨s4, ⟨qq, cc, γ'⟩, O'⟩ ⟨g1, g2, g3, g4⟩
          dsimp only at g1 g2 g3 g4 ⊢
          refine run1 ?_
          refine Wo.call rfl (Xc.call ok6 rfl) rfl ((fin O' s4 qq cc γ' g1 g2 g3 g4).mono ?_)
          rintro v s5 ⟨q', c', D', rfl, h1, h2, h3, h4, h5⟩
          refine run1 ?_
          exact rnd.n (i + 1, s5, (q', c'), D') ⟨hi, h1, h2, h3, h4, h5⟩ (by show C.length - (i + 1) < C.length - i; omega) (.cons rfl (.cons rfl (.cons rfl .nil))) rfl rfl
    · refine run1 ?_
      have hie : i = C.length := by omega
      subst hie
      have hcl : (cety C).length = C.length := List.length_map _
      rw [← hcl, List.take_length] at k6
      exact Lv.ret rfl ⟨ql, cl, D, by rw [f1]; rfl, k3, by rw [f2]; exact k6, k4, k5, k2⟩
theorem efl_filter {f : Ce × Ce → Bool} : ∀ M : EC, (efl (M.filter f)).Sublist (efl M)
  | [] => .slnil
  | p :: M => by
    have ih := efl_filter (f := f) M
    have e : efl (p :: M) = [p.1, p.2] ++ efl M := rfl
    by_cases h : f p = true
    · rw [List.filter_cons_of_pos h, e]
      exact (List.Sublist.refl [p.1, p.2]).append ih
    · rw [List.filter_cons_of_neg h, e]
      exact ih.trans (List.sublist_append_right _ _)
theorem ect_filter {M : EC} : ect (M.filter fun p => !gon p) = (ect M).filter fun x => decide (x.2 ≠ []) := by
  unfold ect
  rw [List.filter_map]
  congr 1
  refine List.filter_congr fun p _ => ?_
  show (!gon p) = decide (p.2.A ≠ [])
  unfold gon
  cases h : p.2.A with
  | nil => rfl
  | cons => simp
set_option maxHeartbeats 1600000 in
theorem papply_ok {l : List El} {C : Chs} (w : Wf s) (ha : At s q (cel l)) (hk : ∀ x ∈ l, BsV s x.1.1 x.2.1 ∧ BsV s x.1.2 x.2.2) (hc : At s r (chl C)) (hkc : ChOk s C) (hl : l.length + C.length < 2 ^ 38) (hm : ∀ x ∈ l, x.2.1.length < 2 ^ 40 ∧ x.2.2.length < 2 ^ 40) (hmc : ∀ x ∈ C, x.1.2.1.length < 2 ^ 40 ∧ x.1.2.2.length < 2 ^ 40) :
    Cl B (.call 13 [.slice q l.length c, .slice r C.length d]) s fun v s' => ∃ q' c' M, v = .tuple ⟨[.slice q' M.length c', nI (aerr (l.map Prod.snd) C)]⟩ ∧ At s' q' (ecs M) ∧ ect M = aout (l.map Prod.snd) C ∧ Fc s' s.nx (efl M) ∧ M.length ≤ l.length + C.length ∧ Kn s s' := by
  refine Cl.enter Tryz.f13 fn13 rfl rfl rfl ?_
  refine run1 ?_
  refine Wo.call rfl (Xc.call ok25 rfl) rfl ((ismap_ok w ha hk (by omega)).mono ?_)
  rintro v s1 ⟨⟨b, rfl, hb⟩, kn1⟩
  have w1 := kn1.wf w
  cases b with
  | false =>
    have hn : ¬ Rgt (l.map Prod.snd) := fun h => by have := hb.2 h; cases this
    obtain ⟨e1, e2⟩ := aerr1 (C := C) hn
    refine run1 ?_
    exact Lv.ret rfl ⟨none, 0, [], by rw [e1]; rfl, .inl ⟨rfl, .inl rfl⟩, by rw [e2]; rfl, .nil, Nat.zero_le _, kn1⟩
  | true =>
  have hR : Rgt (l.map Prod.snd) := hb.1 rfl
  refine run1 ?_
  refine Wo.call rfl (Xc.call ok16 rfl) rfl ((sclone_ok w1 (ha.kn w kn1) (fun x hx => ⟨(hk x hx).1.kn w kn1, (hk x hx).2.kn w kn1⟩) (by omega)).mono ?_)
  rintro v s2 ⟨q2, c2, γ2, rfl, G2, kn2, n2⟩
  have kn02 : Kn s s2 := kn1.trans kn2
  have nx1 := kn1.le
  refine run1 ?_
  refine W.loop (α := Nat × St × (Option Addr × Nat × Nat) × List El) (fun p => [(1, .slice r C.length d), (6, .slice p.2.2.1.1 p.2.2.2.length p.2.2.1.2.1), (14, .slice r C.length d), (15, nI C.length), (16, nI p.1)]) (fun _ => []) (fun p => p.2.1)
    (fun p => p.1 ≤ C.length ∧ Gl s p.2.1 p.2.2.1.1 p.2.2.1.2.1 p.2.2.1.2.2 p.2.2.2 ∧ p.2.2.2 = l ++ (C.take p.1).map Prod.fst ∧ ∀ x ∈ C.take p.1, may x)
    (fun p => C.length - p.1) (0, s2, (q2, c2, γ2), l) ⟨Nat.zero_le _, ⟨w, kn02.mono fun _ e => e.elim, G2, fun _ => by show s.nx ≤ γ2; omega, hk⟩, (List.append_nil l).symm, by simp⟩ (.cons rfl (.cons rfl (.cons rfl (.cons rfl (.cons rfl .nil))))) rfl rfl (by show C.length - 0 < _; omega) ?_
  clear G2 kn2 n2
  rintro ⟨i, s3, ⟨qo, co, γo⟩, O⟩ ⟨k1, k2, k3, k4⟩
  dsimp only at k1 k2 k3 k4 ⊢
  have w3 := k2.wf
  have hOl : O.length = l.length + i := by rw [k3, List.length_append, List.length_map, List.length_take]; omega
  by_cases hi : i < C.length
  · obtain ⟨x, hx⟩ := at_lt hi
    obtain ⟨gr, q1, c1, q2', c2', e1, e2, dn, _, _, _, b1, b2, n1, n2⟩ := ch_ld (At.kpN hc w k2.kp) (hkc.kpN w k2.kp) hx
    refine run1 ?_
    refine Wo.st rfl rfl rfl rfl rfl rfl rfl (by intro v hv; simp only [List.mem_cons, List.not_mem_nil, or_false] at hv; rcases hv with rfl | rfl | rfl <;> rfl) mkRow_rw (by decide) ?_
    intro s4 j1 j2 j3
    have kn4 : Kn s3 s4 := Kn.app mkRow_kn j3 (Nat.le_refl _)
    have w4 := kn4.wf w3
    have R4 : Rw s4 s3.nx [.slice q1 x.1.2.1.length c1, .slice q2' x.1.2.2.length c2', .bool x.2] s3.nx := j1
    have A4 : At s4 (some ⟨s3.nx, 0, none⟩) [.slice q1 x.1.2.1.length c1, .slice q2' x.1.2.2.length c2', .bool x.2] := by have := (R4.sl (o := 0) (n := 3) (by simp)).at; exact this
    have dx : ldn s4 (some ⟨s3.nx, 0, none⟩) 3 = some [.slice q1 x.1.2.1.length c1, .slice q2' x.1.2.2.length c2', .bool x.2] := A4.ldn (i := 0) (n := 3) (by simp) (by decide)
    have g4 : good (some (⟨s3.nx, 0, none⟩ : Addr)) := ⟨_, _, rfl⟩
    refine run1 ?_
    refine Wo.call rfl (Xc.call ok26 rfl) rfl ((pmay_ok w4 n1 n2).mono ?_)
    rintro v s5 ⟨rfl, kn5⟩
    have w5 := kn5.wf w4
    have A5 := A4.kn w4 kn5
    have G5 := (k2.kn kn4).kn kn5
    by_cases hmx : May x.1.2.1 x.1.2.2 x.2
    · have l1 : ldq s5 (qadd (some ⟨s3.nx, 0, none⟩) 0) = some (.slice q1 x.1.2.1.length c1) := At.ld A5 (i := 0) (by simp)
      have l2 : ldq s5 (qadd (some ⟨s3.nx, 0, none⟩) 1) = some (.slice q2' x.1.2.2.length c2') := At.ld A5 (i := 1) (by simp)
      refine run1 ?_
      have w6 : Wf (mkRow s5 [.slice q1 x.1.2.1.length c1, .slice q2' x.1.2.2.length c2']) := mkRow_wf w5
      refine Wo.app2 rfl rfl rfl rfl rfl rfl rfl rfl rfl w6 (G5.gw.keep w5 mkRow_kn fun _ => id) rfl (cells_at mkRow_sl.at rfl (by decide)) rfl (by intro v hv; simp only [List.mem_cons, List.not_mem_nil, or_false] at hv; rcases hv with rfl | rfl <;> rfl) rfl (by omega) (by omega) ?_
      intro q7 c7 γ7 s7 G7 K7 hγ7
      have nxm : (mkRow s5 [.slice q1 x.1.2.1.length c1, .slice q2' x.1.2.2.length c2']).nx = s5.nx + 1 := rfl
      have nxk := G5.kp.le
      refine run1 ?_
      have eO : cel (O ++ [x.1]) = cel O ++ [.slice q1 x.1.2.1.length c1, .slice q2' x.1.2.2.length c2'] := by rw [cel_app, ← e1, ← e2]; rfl
      refine rnd.n (i + 1, s7, (q7, c7, γ7), O ++ [x.1]) ⟨hi, ⟨w, ?_, ?_, fun _ => ?_, fun z hz => ?_⟩, ?_, fun z hz => ?_⟩ (by show C.length - (i + 1) < C.length - i; omega) (.cons rfl (.cons (by show some (Value.slice q7 (O.length + 1) c7) = some (Value.slice q7 (O ++ [x.1]).length c7); rw [List.length_append]; rfl) (.cons rfl (.cons rfl (.cons rfl .nil))))) rfl rfl
      · exact (G5.kp.trans (mkRow_kn.mono fun _ e => e.elim)).trans (K7.mono fun c h => by rw [h.2]; exact k2.lo h.1)
      · show Gw s7 q7 (O ++ [x.1]).length c7 2 (cel (O ++ [x.1])) γ7
        rw [eO, List.length_append]; exact G7
      · show s.nx ≤ γ7
        rcases hγ7 with ⟨h, h'⟩ | h
        · rw [h']; exact k2.lo h
        · omega
      · rcases List.mem_append.1 hz with hz | hz
        · exact k2.ks z hz
        · rw [List.mem_singleton] at hz; subst hz; exact hkc x (List.mem_of_getElem? hx)
      · show O ++ [x.1] = l ++ (C.take (i + 1)).map Prod.fst
        rw [(take_at hx).2.1, List.map_append, k3, List.append_assoc]; rfl
      · dsimp only at hz
        rw [(take_at hx).2.1] at hz
        rcases List.mem_append.1 hz with hz | hz
        · exact k4 z hz
        · rw [List.mem_singleton] at hz; subst hz; exact hmx
    · refine run1 ?_
      obtain ⟨f1, f2⟩ := aerr2 hR ⟨x, List.mem_of_getElem? hx, hmx⟩
      exact Lv.ret rfl ⟨none, 0, [], by rw [f1]; rfl, .inl ⟨rfl, .inl rfl⟩, by rw [f2]; rfl, .nil, Nat.zero_le _, Kp.new .refl G5.kp (Nat.le_refl _)⟩
  · have hie : i = C.length := by omega
    subst hie
    rw [List.take_length] at k3 k4
    obtain ⟨f1, f2⟩ := aerr0 hR k4
    have kn3 : Kn s s3 := Kp.new .refl k2.kp (Nat.le_refl _)
    have nx3 := kn3.le
    refine run1 ?_
    refine Wo.call rfl (Xc.call ok5 rfl) rfl ((ssort_ok w3 k2.at (fun z hz => ⟨(k2.ks z hz).1.kpN w k2.kp, (k2.ks z hz).2.kpN w k2.kp⟩) (by omega) (fun z hz => ?_)).mono ?_)
    · rw [k3] at hz
      rcases List.mem_append.1 hz with hz | hz
      · exact hm z hz
      · obtain ⟨y, hy, rfl⟩ := List.mem_map.1 hz
        exact hmc y hy
    rintro v s4 ⟨q4, c4, γ4, M, rfl, R4, hM, kn4⟩
    have w4 := kn4.wf w3
    have hMl := R4.len
    have hcan : (canon (O.map Prod.snd)).length ≤ O.length := by
      have : ∀ L : List Ety, (canon L).length ≤ L.length := fun L => rev_ind (p := fun L => (canon L).length ≤ L.length) (Nat.le_refl _) (fun L e h => by
        rw [canon_add, List.length_append]
        have : ∀ (D : List Ety), (ins D e).length ≤ D.length + 1 := fun D => by
          induction D with
          | nil => exact Nat.le_refl _
          | cons d D ih =>
            unfold ins
            split
            · simp only [List.length_cons]; omega
            · split <;> simp only [List.length_cons] <;> omega
        have := this (canon L)
        simp only [List.length_cons, List.length_nil]; omega) L
      have := this (O.map Prod.snd)
      rwa [List.length_map] at this
    refine Wo.call rfl (Xc.call ok27 rfl) rfl ((delf_ok w4 R4 (by omega)).mono ?_)
    rintro v s5 ⟨c5, rfl, A5, K5⟩
    refine run1 ?_
    have hsub : (efl (M.filter fun p => !gon p)).Sublist (efl M) := efl_filter M
    refine Lv.ret rfl ⟨q4, c5, M.filter fun p => !gon p, by rw [f1]; rfl, A5, ?_, ?_, ?_, ?_⟩
    · rw [f2, ect_filter, hM, k3, chgs_eq hR.2 fun x hx h => by have := (hR.1 x hx).2.1; rw [h] at this; simp at this]
      congr 2
      rw [List.map_append]
      congr 1
      unfold cety
      rw [List.map_map]; rfl
    · have F5 := (R4.fc.kp w4 K5 fun y hy hq h => R4.ne y hy hq h.1 h.2).sub hsub
      exact ⟨fun y hy => ⟨(F5.ok y hy).gw, fun hq => Nat.le_trans nx3 ((F5.ok y hy).lo hq), (F5.ok y hy).sm⟩, F5.pw⟩
    · have := List.length_filter_le (fun p => !gon p) M
      omega
    · exact Kp.new (kn3.trans kn4) (K5.mono fun c h => by rw [h.2]; exact R4.lo h.1) nx3
end Go.Proofs.YtdibpdpcbnijeaaGreatDoor
