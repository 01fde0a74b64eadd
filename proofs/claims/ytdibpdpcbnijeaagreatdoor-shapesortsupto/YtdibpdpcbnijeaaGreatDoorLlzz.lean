import Derived.Test.YtdibpdpcbnijeaaGreatDoorLhzz
/-
  cairnlaw14.ShapeSorts.
-/
namespace Go.Sy
open Go Go.Ev
theorem Res.cells {lo : Nat} {s : St} {q : Option Addr} {n c γ d : Nat} {M : EC} (h : Res lo s q n c γ M) : cellsFrom s 2 n (.slice q n d) = some (ecs M) := cells_at h.at (by rw [ecs_length, h.len]) (by decide)
theorem Res.kpN {lo : Nat} {s s' : St} {q : Option Addr} {n c γ : Nat} {M : EC} (h : Res lo s q n c γ M) (w : Wf s) (k : Kp (fun c => s.nx ≤ c) s s') : Res lo s' q n c γ M :=
  ⟨h.gw.keep w k fun hq => by have := h.gw.ltn w hq; omega, h.fc.kp w k fun x hx hq => by have := h.fc.lt w hx hq; omega, h.lo, h.ne⟩
theorem Fc.kpN {lo : Nat} {s s' : St} {l : List Ce} (h : Fc s lo l) (w : Wf s) (k : Kp (fun c => s.nx ≤ c) s s') : Fc s' lo l := h.kp w k fun x hx hq => by have := h.lt w hx hq; omega
theorem Own.kpN {s s' : St} {v : Value} {A X : List Nat} {γ : Nat} (h : Own s v A X γ) (w : Wf s) (k : Kp (fun c => s.nx ≤ c) s s') : Own s' v A X γ := h.kp w k (by have := h.ltn w; omega)
end Go.Sy
namespace Go.Proofs.YtdibpdpcbnijeaaGreatDoor
open Go Go.Ev Go.Sy
set_option maxRecDepth 100000
variable {s s0 : St} {q r : Option Addr} {c d : Nat}
theorem els_kp {s s' : St} {l : List El} (h : ∀ x ∈ l, BsV s x.1.1 x.2.1 ∧ BsV s x.1.2 x.2.2) (w : Wf s) (k : Kp (fun c => s.nx ≤ c) s s') : ∀ x ∈ l, BsV s' x.1.1 x.2.1 ∧ BsV s' x.1.2 x.2.2 := fun x hx => ⟨(h x hx).1.kpN w k, (h x hx).2.kpN w k⟩
theorem TabAt.kpN {s s' : St} (h : TabAt s) (w : Wf s) (k : Kp (fun c => s.nx ≤ c) s s') : TabAt s' := fun p hp => At.kpN (h p hp) w k
theorem kup {s s' : St} (k : Kn s s') : Kp (fun c => s.nx ≤ c) s s' := k.mono fun _ e => e.elim
theorem kup2 {s0 s s' : St} (h : Kp (fun c => s0.nx ≤ c) s0 s) (k : Kp (fun c => s.nx ≤ c) s s') : Kp (fun c => s0.nx ≤ c) s0 s' := h.trans (k.mono fun _ e => Nat.le_trans h.le e)
theorem own_els {s : St} {b γ n : Nat} {ks : List Value} {mk : Value} {E : List Ety} {Γ : List Nat} (hr : Rw s b (ks ++ [mk, .slice none 0 0]) γ) (ho : OwnE s ks E Γ) (hn : E.length = n) : ∃ l : List El, ks = cel l ∧ l.map Prod.snd = E ∧ l.length = n ∧ At s (some ⟨b, 0, none⟩) (cel l) ∧ ∀ x ∈ l, BsV s x.1.1 x.2.1 ∧ BsV s x.1.2 x.2.2 := by
  obtain ⟨l, e1, e2, e3⟩ := ho.ent.els
  refine ⟨l, e1, e2.symm, by rw [← hn, e2, List.length_map], ?_, e3⟩
  rw [e1] at hr
  have := (hr.sl (o := 0) (n := (cel l).length) (by rw [List.length_append]; omega)).at
  rwa [List.drop_zero, List.take_append_of_le_length (Nat.le_refl _), List.take_length] at this
theorem mix_get {E : List Ety} {i : Nat} {e : Ety} (h : E[i]? = some e) : ((E.take i).map tk1 ++ E.drop i)[i]? = some e ∧ ((E.take i).map tk1 ++ E.drop i).set i (tk1 e) = (E.take (i + 1)).map tk1 ++ E.drop (i + 1) := by
  have hi : i < E.length := (List.getElem?_eq_some_iff.1 h).1
  obtain ⟨h1, h2, h3⟩ := take_at h
  have hl : ((E.take i).map tk1).length = i := by rw [List.length_map, List.length_take]; omega
  rw [h3, h2]
  constructor
  · rw [List.getElem?_append_right (by omega), hl, Nat.sub_self]; rfl
  · rw [List.set_append_right _ _ (by omega), hl, Nat.sub_self, List.set_cons_zero, List.map_append, List.append_assoc]; rfl
theorem Xv.neB {X : Fx} {env : Env} {s : St} {t t' : TypeId} {x y : Operand} {a : Bool} (hx : ev env x = some (.bool a)) (hy : ev env y = some (.bool a)) (ht : X.P.underlying t = some .bool) : Xv X (.binOp .neq t x y t') env s (.bool false) s := fun tm hf => by
  show xBin X.P .neq t x y (opd tm x) (opd tm y) s = _
  rw [ev_opd hf hx, ev_opd hf hy]
  show eqA X.P .neq t x y (.bool a) (.bool a) s = _
  have h1 : pureRun X.P (Op.equal t (.bool a) (.bool a)) = some (a == a) := by
    show pureRun X.P (underlying t >>= _) = _
    rw [Go.Sy.pureRun_bind, pureRun_und ht]; rfl
  have h2 : pureRun X.P (do eqGuard .neq t x y (.bool a) (.bool a); binOp .neq t (.bool a) (.bool a)) = some (.bool (!(a == a))) := by
    show pureRun X.P (Op.equal t (.bool a) (.bool a) >>= fun r => pure (Value.bool (!r))) = _
    rw [Go.Sy.pureRun_bind, h1]; rfl
  have h3 : eqNil (some .bool) (.bool a) (.bool a) = none := rfl
  unfold eqA
  simp only [ht, h3]
  show ofPure X.P _ s = _
  unfold ofPure
  rw [h2]
  cases a <;> rfl
/-- The law's own changes: each list with marks. -/
def OwnCh (s : St) (lo : Nat) (C : Chs) : Prop := ∀ x ∈ C, ∃ g g', Own s x.1.1.1 x.1.2.1 [77, 78, 79] g ∧ Own s x.1.1.2 x.1.2.2 [77, 78, 79] g' ∧ lo < g ∧ lo < g'
theorem OwnCh.ok {s : St} {lo : Nat} {C : Chs} (h : OwnCh s lo C) : ChOk s C := fun x hx => let ⟨_, _, h1, h2, _⟩ := h x hx; ⟨h1.bs, h2.bs⟩
theorem OwnCh.kp {K : Nat → Prop} {s s' : St} {lo : Nat} {C : Chs} (h : OwnCh s lo C) (w : Wf s) (k : Kp K s s') (hK : ∀ g, lo < g → g < s.nx → ¬ K g) : OwnCh s' lo C := fun x hx => let ⟨g, g', h1, h2, h3, h4⟩ := h x hx; ⟨g, g', h1.kp w k (hK g h3 (h1.ltn w)), h2.kp w k (hK g' h4 (h2.ltn w)), h3, h4⟩
def zc3 (m : Nat) : List Value := (List.replicate m [Value.slice none 0 0, Value.slice none 0 0, Value.bool false]).flatten
theorem zc3_length (m : Nat) : (zc3 m).length = m * 3 := by unfold zc3; rw [List.length_flatten]; simp
theorem zc3_succ (m : Nat) : zc3 (m + 1) = Value.slice none 0 0 :: Value.slice none 0 0 :: Value.bool false :: zc3 m := by unfold zc3; rw [List.replicate_succ]; rfl
theorem zc3_lov {cs : List Value} {m n : Nat} {k v u : Value} (hn : cs.length = n) : lov (cs ++ zc3 (m + 1)) n [k, v, u] = (cs ++ [k, v, u]) ++ zc3 m := by
  subst hn
  unfold lov
  rw [List.take_append_of_le_length (Nat.le_refl _), List.take_length, List.append_assoc, zc3_succ, List.drop_append, List.drop_eq_nil_of_le (by simp), List.nil_append]
  congr 1
  show k :: v :: u :: List.drop (cs.length + 3 - cs.length) _ = _
  rw [Nat.add_sub_cancel_left]; rfl
theorem chl_app {C D : Chs} : chl (C ++ D) = chl C ++ chl D := List.flatMap_append
set_option maxHeartbeats 8000000 in
theorem law_ok {l : List El} {C : Chs} {E : List Ety} {n : Nat} (hE : l.map Prod.snd = E) (hn : l.length = n) (w : Wf s) (hT : TabAt s) (ha : At s q (cel l)) (hk : ∀ x ∈ l, BsV s x.1.1 x.2.1 ∧ BsV s x.1.2 x.2.2) (hc : At s r (chl C)) (hkc : ChOk s C)
    (hl : n < 2 ^ 30) (hlc : C.length < 2 ^ 30) (hm : ∀ e ∈ E, e.1.length < 2 ^ 30 ∧ e.2.length < 2 ^ 30) (hmc : ∀ x ∈ C, x.1.2.1.length < 2 ^ 30 ∧ x.1.2.2.length < 2 ^ 30) (hby : ∀ e ∈ E, ∀ y ∈ e.1, y < 256) :
    Cl B (.call 3 [.slice q n c, .slice r C.length d]) s fun v _ => v = .bool true := by
  have hm40 : ∀ e ∈ E, e.1.length < 2 ^ 40 ∧ e.2.length < 2 ^ 40 := fun e he => by have := hm e he; omega
  have hEl : E.length = n := by rw [← hE, List.length_map]; exact hn
  have hcE : (canon E).length ≤ n := by have := canon_length E; omega
  refine Cl.enter Tryz.f3 fn3 rfl rfl rfl ?_
  refine run1 ?_
  -- Copy
  refine Wo.call rfl (Xc.call ok4 rfl) rfl ((copy_E hE hn w ha hk (by omega) hm40).mono ?_)
  rintro v s1 ⟨b1, γ1, ks, Γ, mk, rfl, P1, kn1, n1, lo1⟩
  have w1 := kn1.wf w
  obtain ⟨l1, hks, e1, h1l, A1, hk1⟩ := P1.els
  refine run1 ?_
  -- got
  refine Wo.call rfl (Xc.call ok5 rfl) rfl ((ssort_E e1 h1l w1 A1 hk1 (by omega) hm40).mono ?_)
  rintro v s2 ⟨q2, c2, γ2, M1, rfl, S1, hM1, kn2⟩
  have w2 := kn2.wf w1
  have kn02 : Kn s s2 := kn1.trans kn2
  refine run1 ?_
  -- want
  refine Wo.call rfl (Xc.call ok6 rfl) rfl ((rsort_E hE hn w2 (ha.kn w kn02) (els_kp hk w (kup kn02)) (by omega)).mono ?_)
  rintro v s3 ⟨qw, cw, γw, Wl, rfl, GW, hWc, hWm, hWl, kn3⟩
  have w3 := kn3.wf w2
  have kn03 : Kn s s3 := kn02.trans kn3
  have kn13 : Kn s1 s3 := kn2.trans kn3
  refine run1 ?_
  -- the same
  have hp1 : canon E = canon E := rfl
  have S1' := S1.kn w2 kn3
  have entW : Ent s3 (cel Wl) (canon E) := by have := GW.ent; rwa [hWc] at this
  have ent1 : Ent s3 (ecs M1) (canon E) := by have := S1'.ent; rwa [hM1] at this
  refine Wo.call rfl (Xc.call ok7 rfl) rfl ((sames_E rfl rfl S1'.at ent1 GW.at entW (by omega) (by omega)).mono ?_)
  rintro v s' ⟨rfl, e'⟩
  rw [e']; clear e' s'
  refine run1 ?_
  -- again
  have A1' := A1.kn w1 kn13
  refine Wo.call rfl (Xc.call ok5 rfl) rfl ((ssort_E e1 h1l w3 A1' (els_kp hk1 w1 (kup kn13)) (by omega) hm40).mono ?_)
  rintro v s4 ⟨q4, c4, γ4, M2, rfl, S2, hM2, kn4⟩
  have w4 := kn4.wf w3
  have kn04 : Kn s s4 := kn03.trans kn4
  have kn14 : Kn s1 s4 := kn13.trans kn4
  have kn24 : Kn s2 s4 := kn3.trans kn4
  refine run1 ?_
  have entW4 : Ent s4 (cel Wl) (canon E) := entW.kn w3 kn4
  have ent2 : Ent s4 (ecs M2) (canon E) := by have := S2.ent; rwa [hM2] at this
  refine Wo.call rfl (Xc.call ok7 rfl) rfl ((sames_E rfl rfl S2.at ent2 (GW.at.kn w3 kn4) entW4 (by omega) (by omega)).mono ?_)
  rintro v s' ⟨rfl, e'⟩
  rw [e']; clear e' s'
  refine run1 ?_
  have P4 := P1.kpN w1 (kup kn14)
  have entE4 : Ent s4 (cel l) E := by have := cel_ent (els_kp hk w (kup kn04)); rwa [hE] at this
  refine Wo.call rfl (Xc.call ok8 rfl) rfl ((wholes_E P4 (ha.kn w kn04) entE4 (by omega)).mono ?_)
  rintro v s' ⟨rfl, e'⟩
  rw [e']; clear e' s'
  refine run1 ?_
  -- the keys turned
  have nx1 := kn1.le
  have nx2 := kn2.le
  have nx3 := kn3.le
  have nx4 := kn4.le
  have hΓ1 : ∀ g ∈ Γ, g < s1.nx := OwnE.ltn w1 P1.ow
  have hγ1Γ : γ1 ∉ Γ := (List.nodup_cons.1 P1.nd).1
  have hΓn : Γ.Nodup := (List.nodup_cons.1 P1.nd).2
  obtain ⟨K, hK⟩ : ∃ K, K = (canon E).length := ⟨_, rfl⟩
  rw [← hK] at hcE S1' S2 ⊢
  refine W.loop (α := Nat × St) (fun p => [(0, .slice q n c), (1, .slice r C.length d), (5, .slice (some ⟨b1, 0, none⟩) n (sure (n + 1))), (6, .slice q2 K c2), (7, .slice qw K cw), (8, .slice q4 K c4), (9, nI p.1)]) (fun _ => []) (fun p => p.2)
    (fun p => p.1 ≤ n ∧ Rw p.2 b1 (ks ++ [mk, .slice none 0 0]) γ1 ∧ OwnE p.2 ks ((E.take p.1).map tk1 ++ E.drop p.1) Γ ∧ Kp (fun c => c ∈ Γ) s4 p.2)
    (fun p => n - p.1) (0, s4) ⟨Nat.zero_le _, P4.rw, P4.ow, .refl⟩ (.cons rfl (.cons rfl (.cons rfl (.cons rfl (.cons rfl (.cons rfl (.cons rfl .nil))))))) rfl rfl (by show n - 0 < _; omega) ?_
  rintro ⟨i, st⟩ ⟨k1, k2, k3, k4⟩
  dsimp only at k1 k2 k3 k4 ⊢
  have wt := k4.wf w4
  by_cases hi : i < n
  · obtain ⟨e, he⟩ := at_lt (l := E) (k := i) (by omega)
    obtain ⟨g1, g2⟩ := mix_get he
    obtain ⟨kc, g, u1, u2, u3, u4⟩ := OwnE.upd k3 hΓn g1
    obtain ⟨x, y, rfl, hrx, hcx, hcy⟩ := u3.ex
    have hks2 : ks.length = n * 2 := by rw [hks, cel_length, h1l]
    have hat : At st (some ⟨b1, 0, none⟩) (ks ++ [mk, .slice none 0 0]) := by
      have := (k2.sl (o := 0) (n := (ks ++ [mk, .slice none 0 0]).length) (by omega)).at
      rwa [List.drop_zero, List.take_length] at this
    have ld : ldq st (qadd (qadd (some ⟨b1, 0, none⟩) (i * 2)) 0) = some (.slice (some ⟨x, 0, none⟩) e.1.length y) := by
      rw [qadd_qadd, At.ld hat (i := i * 2 + 0) (by rw [List.length_append]; omega), ← List.getElem?_eq_getElem, Nat.add_zero, List.getElem?_append_left (by omega)]; exact u1
    have gb : good (some (⟨b1, 0, none⟩ : Addr)) := ⟨_, _, rfl⟩
    have hem := List.mem_of_getElem? he
    refine run1 ?_
    refine Wo.call rfl (Xc.call ok9 rfl) rfl ((turn_ok wt hrx u3.lt (hby e hem)).mono ?_)
    rintro v s' ⟨j1, j2, j3⟩
    have own' : Own s' (.slice (some ⟨x, 0, none⟩) e.1.length y) (e.1.map fun x => x ^^^ 1) [77, 78, 79] g := ⟨⟨x, y, by rw [List.length_map], j1, by rw [List.length_map]; exact hcx, hcy⟩, by rw [List.length_map]; exact u3.lt⟩
    have o2 := u4 wt j3 own'
    rw [show ((e.1.map fun x => x ^^^ 1), e.2) = tk1 e from rfl, g2] at o2
    refine run1 ?_
    exact rnd.n (i + 1, s') ⟨hi, k2.kp wt j3 (fun h => hγ1Γ (h ▸ u2)), o2, k4.trans (j3.mono fun c h => by rw [h]; exact u2)⟩ (by show n - (i + 1) < n - i; omega) (.cons rfl (.cons rfl (.cons rfl (.cons rfl (.cons rfl (.cons rfl (.cons rfl .nil))))))) rfl rfl
  have hie : i = n := by omega
  subst hie
  rw [List.take_of_length_le (by omega), List.drop_eq_nil_of_le (by omega), List.append_nil] at k3
  obtain ⟨Et, hEt⟩ : ∃ Et, Et = E.map tk1 := ⟨_, rfl⟩
  rw [← hEt] at k3
  have hEtl : Et.length = i := by rw [hEt, List.length_map]; exact hEl
  have hmt : ∀ e ∈ Et, e.1.length < 2 ^ 40 ∧ e.2.length < 2 ^ 40 := fun e he => by
    rw [hEt] at he
    obtain ⟨e', he', rfl⟩ := List.mem_map.1 he
    have := hm e' he'
    exact ⟨by show (e'.1.map _).length < _; rw [List.length_map]; omega, by show e'.2.length < _; omega⟩
  obtain ⟨l5, _, e5, h5l, A5, hk5⟩ := own_els k2 k3 hEtl
  refine run1 ?_
  -- turned
  refine Wo.call rfl (Xc.call ok6 rfl) rfl ((rsort_E e5 h5l wt A5 hk5 (by omega)).mono ?_)
  rintro v s6 ⟨qt, ct, γt, Tl, rfl, GT, hTc, _, _, kn6⟩
  have w6 := kn6.wf wt
  refine run1 ?_
  -- third
  refine Wo.call rfl (Xc.call ok5 rfl) rfl ((ssort_E e5 h5l w6 (A5.kn wt kn6) (els_kp hk5 wt (kup kn6)) (by omega) hmt).mono ?_)
  rintro v s7 ⟨q7, c7, γ7, M3, rfl, S3, hM3, kn7⟩
  have w7 := kn7.wf w6
  have kn57 : Kn st s7 := kn6.trans kn7
  have hcT : (canon Et).length ≤ i := by have := canon_length Et; omega
  have hpT : canon Et = canon Et := rfl
  obtain ⟨K3, hK3⟩ : ∃ K3, K3 = (canon Et).length := ⟨_, rfl⟩
  rw [← hK3] at hcT S3 ⊢
  have nx5 := k4.le
  have nx6 := kn6.le
  have nx7 := kn7.le
  -- what is there behind all that
  have hS1t : Res s1.nx st q2 K c2 γ2 M1 := (S1'.kn w3 kn4).kp w4 k4 fun c hc h => by have := hΓ1 c h; omega
  have hS2t : Res s3.nx st q4 K c4 γ4 M2 := S2.kp w4 k4 fun c hc h => by have := hΓ1 c h; omega
  have S1_7 := hS1t.kn wt kn57
  have S2_7 := hS2t.kn wt kn57
  have hγw : qw ≠ none → s2.nx ≤ γw ∧ γw < s3.nx := fun h => ⟨GW.lo h, GW.gw.ltn w3 h⟩
  have GW7 : Gw s7 qw Wl.length cw 2 (cel Wl) γw := ((GW.gw.keep w3 kn4 fun _ => id).keep w4 k4 fun h hc => by have := hΓ1 _ hc; have := hγw h; omega).keep wt kn57 fun _ => id
  refine run1 ?_
  -- both
  have wA : Wf (mkRow s7 []) := mkRow_wf w7
  have nxA : (mkRow s7 []).nx = s7.nx + 1 := rfl
  refine Wo.app2 rfl rfl rfl rfl rfl rfl rfl rfl rfl wA (Gw.mk0 (cs := []) (n := 0) (size := 2) rfl) rfl (S1_7.kn w7 mkRow_kn).cells (by rw [ecs_length, S1_7.len]) ecs_one rfl (by omega) (by omega) ?_
  intro q8 c8 γ8 s8 G8 K8 h8
  have KA8 : Kp (fun c => s7.nx ≤ c) s7 s8 := (kup mkRow_kn).trans (K8.mono fun c h => by rw [h.2]; exact Nat.le_refl _)
  have w8 := KA8.wf w7
  have hγ8 : s7.nx ≤ γ8 := by rcases h8 with ⟨_, h⟩ | h <;> omega
  refine run1 ?_
  refine Wo.app2 rfl rfl rfl rfl rfl rfl rfl rfl rfl w8 G8 rfl (S2_7.kpN w7 KA8).cells (by rw [ecs_length, S2_7.len]) ecs_one rfl (by omega) (by omega) ?_
  intro q9 c9 γ9 s9 G9 K9 h9
  have KA9 : Kp (fun c => s7.nx ≤ c) s7 s9 := KA8.trans (K9.mono fun c h => by rw [h.2]; exact hγ8)
  have w9 := KA9.wf w7
  have nx8 := KA8.le
  have hγ9 : s7.nx ≤ γ9 := by rcases h9 with ⟨_, h⟩ | h <;> omega
  refine run1 ?_
  refine Wo.app2 rfl rfl rfl rfl rfl rfl rfl rfl rfl w9 G9 rfl (S3.kpN w7 KA9).cells (by rw [ecs_length, S3.len]) ecs_one rfl (by omega) (by omega) ?_
  intro qb cb γb sb Gb Kb hb
  have KAb : Kp (fun c => s7.nx ≤ c) s7 sb := KA9.trans (Kb.mono fun c h => by rw [h.2]; exact hγ9)
  have wb := KAb.wf w7
  have nx9 := KA9.le
  have nxb := KAb.le
  have hγb : s7.nx ≤ γb := by rcases hb with ⟨_, h⟩ | h <;> omega
  refine run1 ?_
  have S3b := S3.kpN w7 KAb
  have ent3 : Ent sb (ecs M3) (canon Et) := by have := S3b.ent; rwa [hM3] at this
  have Kst : Kp (fun c => st.nx ≤ c) st sb := kup2 (kup kn57) KAb
  have GTb : Gl st sb qt ct γt Tl := (GT.kn kn7).kpc KAb (fun c h => by omega) (fun h hc => by have := GT.gw.ltn w6 h; omega)
  have entT : Ent sb (cel Tl) (canon Et) := by have := GTb.ent; rwa [hTc] at this
  refine Wo.call rfl (Xc.call ok7 rfl) rfl ((sames_E hK3.symm hK3.symm S3b.at ent3 GTb.at entT (by omega) (by omega)).mono ?_)
  rintro v s' ⟨rfl, e'⟩
  rw [e']; clear e' s'
  refine run1 ?_
  -- apart
  have S1b := S1_7.kpN w7 KAb
  have S2b := S2_7.kpN w7 KAb
  have lt1 : ∀ x ∈ efl M1, x.q ≠ none → s1.nx ≤ x.γ ∧ x.γ < s2.nx := fun x hx hq => ⟨(S1.fc.ok x hx).lo hq, S1.fc.lt w2 hx hq⟩
  have lt2 : ∀ x ∈ efl M2, x.q ≠ none → s3.nx ≤ x.γ ∧ x.γ < s4.nx := fun x hx hq => ⟨(S2.fc.ok x hx).lo hq, S2.fc.lt w4 hx hq⟩
  have lt3 : ∀ x ∈ efl M3, x.q ≠ none → s6.nx ≤ x.γ ∧ x.γ < s7.nx := fun x hx hq => ⟨(S3.fc.ok x hx).lo hq, S3.fc.lt w7 hx hq⟩
  have hlen : (M1 ++ M2 ++ M3).length = 0 + K + K + K3 := by rw [List.length_append, List.length_append, S1_7.len, S2_7.len, S3.len]; omega
  have GbM : Gw sb qb (0 + K + K + K3) cb 2 (ecs (M1 ++ M2 ++ M3)) γb := by rw [ecs_app, ecs_app]; rw [List.nil_append] at Gb; exact Gb
  have FM : Fc sb s1.nx (efl (M1 ++ M2 ++ M3)) := by
    rw [efl_app, efl_app]
    refine (S1b.fc.app S2b.fc (by omega) fun x hx y hy a1 a2 => by have := lt1 x hx a1; have := lt2 y hy a2; omega).app S3b.fc (by omega) fun x hx y hy a1 a2 => ?_
    have := lt3 y hy a2
    rcases List.mem_append.1 hx with hx | hx
    · have := lt1 x hx a1; omega
    · have := lt2 x hx a1; omega
  have hall : ∀ x ∈ efl (M1 ++ M2 ++ M3), x.q ≠ none → s1.nx ≤ x.γ ∧ x.γ < s7.nx ∧ (x.γ < s2.nx ∨ s3.nx ≤ x.γ) := fun x hx hq => by
    rw [efl_app, efl_app] at hx
    rcases List.mem_append.1 hx with hx | hx
    · rcases List.mem_append.1 hx with hx | hx
      · have := lt1 x hx hq; omega
      · have := lt2 x hx hq; omega
    · have := lt3 x hx hq; omega
  refine Wo.call rfl (Xc.call ok10 rfl) rfl ((lapart_E hlen wb GbM FM (fun x hx a1 _ => by have := hall x hx a1; omega) (by omega)).mono ?_)
  rintro v s11 ⟨rfl, K11⟩
  have w11 := K11.wf wb
  have K01 : Kp (fun c => s.nx ≤ c) s s11 := by
    have a1 : Kp (fun c => s.nx ≤ c) s st := (kup kn04).trans (k4.mono fun c h => lo1 c h)
    have a2 : Kp (fun c => s.nx ≤ c) s sb := a1.trans (Kst.mono fun c h => Nat.le_trans a1.le h)
    refine a2.trans (K11.mono fun c h => ?_)
    rcases h with ⟨x, hx, hq, rfl⟩ | ⟨_, h⟩ | h
    · have := hall x hx hq; omega
    · omega
    · have := a2.le; omega
  have AW : At s11 qw (cel Wl) := by
    have g7 : Gw sb qw Wl.length cw 2 (cel Wl) γw := GW7.keep w7 KAb fun h hc => by have := hγw h; omega
    refine (g7.keep wb K11 fun h hc => ?_).sl.at
    have := hγw h
    rcases hc with ⟨x, hx, hq, e⟩ | ⟨_, e⟩ | e
    · have := hall x hx hq; omega
    · omega
    · omega
  have hkW : ∀ x ∈ Wl, BsV s x.1.1 x.2.1 ∧ BsV s x.1.2 x.2.2 := fun x hx => hk x (hWm x hx)
  have hEW : ∀ e ∈ canon E, e.1.length < 2 ^ 40 ∧ e.2.length < 2 ^ 40 := fun e he => hm40 e (canon_mem he)
  rw [← hK] at hWl
  have hcl : C.length < 2 ^ 30 := hlc
  clear K11 GbM FM hall lt1 lt2 lt3 S1b S2b S3b entT GTb Kst ent3 KAb KA9 KA8 Gb G9 G8 Kb K9 K8 GW7 S1_7 S2_7 hS1t hS2t S3 GT A5 hk5 e5 k3 k2 k4 S1 S2 S1' ent1 ent2 entW entW4 entE4 A1 A1' hk1 P1 P4 wb w9 w8 wA w7 w6 wt
  refine run1 ?_
  refine W.loop (α := Nat × St) (fun p => [(0, .slice q i c), (1, .slice r C.length d), (7, .slice qw K cw), (13, nI p.1)]) (fun _ => []) (fun p => p.2)
    (fun p => p.1 ≤ 2 ∧ Kp (fun c => s11.nx ≤ c) s11 p.2) (fun p => 2 - p.1) (0, s11) ⟨by show 0 ≤ 2; omega, .refl⟩ (.cons rfl (.cons rfl (.cons rfl (.cons rfl .nil)))) rfl rfl (by show 2 - 0 < _; omega) ?_
  rintro ⟨ps, sp⟩ ⟨p1, p2⟩
  dsimp only at p1 p2 ⊢
  have wp := p2.wf w11
  have Kp0 : Kp (fun c => s.nx ≤ c) s sp := K01.trans (p2.mono fun c h => by have := K01.le; omega)
  have haP := At.kpN ha w Kp0
  have hkP := els_kp hk w Kp0
  have hcP := At.kpN hc w Kp0
  have hkcP := hkc.kpN w Kp0
  have AWP := At.kpN AW w11 p2
  have hkWP := els_kp hkW w Kp0
  by_cases hps : ps < 2
  · refine run1 ?_
    refine W.meet (α := Option Addr × Nat × Nat × List El × List Ety) (fun p => [(0, .slice q i c), (1, .slice r C.length d), (7, .slice qw K cw), (13, nI ps), (14, .slice p.1 p.2.1 p.2.2.1)]) (fun _ => sp)
      (fun p => At sp p.1 (cel p.2.2.2.1) ∧ p.2.2.2.1.map Prod.snd = p.2.2.2.2 ∧ p.2.2.2.1.length = p.2.1 ∧ (∀ x ∈ p.2.2.2.1, BsV sp x.1.1 x.2.1 ∧ BsV sp x.1.2 x.2.2) ∧ p.2.1 ≤ i ∧ ∀ e ∈ p.2.2.2.2, e.1.length < 2 ^ 40 ∧ e.2.length < 2 ^ 40) ?_ ?_
    · refine W.cond rfl (fun h => ?_) (fun h => ?_)
      · refine run1 ?_
        exact meet.n (qw, K, cw, Wl, canon E) ⟨AWP, hWc, hWl, hkWP, hcE, hEW⟩ (.cons rfl (.cons rfl (.cons rfl (.cons rfl (.cons rfl .nil))))) rfl
      · refine run1 ?_
        exact meet.n (q, i, c, l, E) ⟨haP, hE, hn, hkP, Nat.le_refl _, hm40⟩ (.cons rfl (.cons rfl (.cons rfl (.cons rfl (.cons rfl .nil))))) rfl
    rintro ⟨qi, ni, ci, li, Ei⟩ ⟨f1, f2, f3, f4, f5, f6⟩
    dsimp only at f1 f2 f3 f4 f5 f6 ⊢
    refine run1 ?_
    refine Wo.call rfl (Xc.call ok4 rfl) rfl ((copy_E f2 f3 wp f1 f4 (by omega) f6).mono ?_)
    rintro v sc ⟨b2, γ2', ks2, Γ2, mk2, rfl, Pc, knc, _, _⟩
    have wc := knc.wf wp
    refine run1 ?_
    refine Wo.val rfl (Xv.make rfl rfl rfl rfl rfl (Nat.zero_le _) rfl (by omega) (by omega)) rfl ?_
    refine run1 ?_
    obtain ⟨m, hm'⟩ : ∃ m, m = C.length := ⟨_, rfl⟩
    rw [← hm'] at hcl hlc ⊢
    have gr0 : ∀ {st : St}, Kp (fun c => sc.nx ≤ c) sc st → At st r (chl C) ∧ ChOk st C := fun {st} k => by
      have k' : Kp (fun c => sp.nx ≤ c) sp st := kup2 (kup knc) k
      exact ⟨At.kpN hcP wp k', hkcP.kpN wp k'⟩
    refine W.loop (α := Nat × St × Chs) (fun p => [(0, .slice q i c), (1, .slice r m d), (5, .slice (some ⟨b2, 0, none⟩) ni (sure (ni + 1))), (7, .slice qw K cw), (13, nI ps), (14, .slice qi ni ci), (15, .slice (some ⟨sc.nx, 0, none⟩) p.1 (sure m)), (16, nI p.1)]) (fun _ => []) (fun p => p.2.1)
      (fun p => p.1 ≤ m ∧ Kn sc p.2.1 ∧ Rw p.2.1 sc.nx (chl p.2.2 ++ zc3 (m - p.1)) sc.nx ∧ OwnCh p.2.1 sc.nx p.2.2 ∧ p.2.2.map (fun x => (x.1.2, x.2)) = (C.take p.1).map (fun x => (x.1.2, x.2)))
      (fun p => m - p.1) (0, mkRow sc (zc3 m), []) ⟨Nat.zero_le _, mkRow_kn, mkRow_rw, by intro x hx; simp at hx, rfl⟩ (.cons rfl (.cons rfl (.cons rfl (.cons rfl (.cons rfl (.cons rfl (.cons rfl (.cons rfl .nil)))))))) rfl rfl (by show m - 0 < _; omega) ?_
    rintro ⟨j, sd, C'⟩ ⟨m1, m2, m3, m4, m5⟩
    dsimp only at m1 m2 m3 m4 m5 ⊢
    have wd := m2.wf wc
    have hC'l : C'.length = j := by have := congrArg List.length m5; rw [List.length_map, List.length_map, List.length_take] at this; omega
    by_cases hj : j < m
    · obtain ⟨x, hx⟩ := at_lt (l := C) (k := j) (by omega)
      obtain ⟨gr1, gr2⟩ := gr0 (kup m2)
      obtain ⟨gr, q1, c1, q3, c3, x1, x2, dn, _, _, _, y1, y2, z1, z2⟩ := ch_ld gr1 gr2 hx
      obtain ⟨lk1, lk2⟩ := hmc x (List.mem_of_getElem? hx)
      refine run1 ?_
      refine Wo.st rfl rfl rfl rfl rfl rfl rfl (by intro v hv; simp only [List.mem_cons, List.not_mem_nil, or_false] at hv; rcases hv with rfl | rfl | rfl <;> rfl) mkRow_rw (by decide) ?_
      intro se a1 a2 a3
      have kne : Kn sd se := Kn.app mkRow_kn a3 (Nat.le_refl _)
      have we := kne.wf wd
      have Re : Rw se sd.nx [.slice q1 x.1.2.1.length c1, .slice q3 x.1.2.2.length c3, .bool x.2] sd.nx := a1
      have Ae : At se (some ⟨sd.nx, 0, none⟩) [.slice q1 x.1.2.1.length c1, .slice q3 x.1.2.2.length c3, .bool x.2] := by have := (Re.sl (o := 0) (n := 3) (by simp)).at; exact this
      have ge : good (some (⟨sd.nx, 0, none⟩ : Addr)) := ⟨_, _, rfl⟩
      have u0 : ldq se (qadd (some ⟨sd.nx, 0, none⟩) 0) = some (.slice q1 x.1.2.1.length c1) := At.ld Ae (i := 0) (by simp)
      have u1 : ldq se (qadd (some ⟨sd.nx, 0, none⟩) 1) = some (.slice q3 x.1.2.2.length c3) := At.ld Ae (i := 1) (by simp)
      have u2 : ldq se (qadd (some ⟨sd.nx, 0, none⟩) 2) = some (.bool x.2) := At.ld Ae (i := 2) (by simp)
      refine run1 ?_
      refine W.dr [(1, .none, 0), (2, .reads, 2), (3, .acts, 6), (4, .none, 0), (5, .reads, 16), (6, .acts, 62), (0, .none, 0), (7, .none, 0), (8, .reads, 128), (9, .none, 510), (10, .makes, 1022), (11, .acts, 2047), (12, .none, 4095)] (by kernel_rfl) rfl ?_
      refine run1 ?_
      refine Wd.call rfl (Xc.call ok11 rfl) rfl ((roomy_own we (y1.kn wd kne) (by omega)).mono ?_)
      rintro v1 sf ⟨g1, o1, knf, lo1'⟩
      refine ⟨knf.le, ?_⟩
      have wf := knf.wf we
      have v1' := ldq_kn u1 we knf
      have v2' := ldq_kn u2 we knf
      refine run1 ?_
      refine Wd.call rfl (Xc.call ok11 rfl) rfl ((roomy_own wf ((y2.kn wd kne).kn we knf) (by omega)).mono ?_)
      rintro v2 sg ⟨g2, o2, kng, lo2'⟩
      refine ⟨kng.le, ?_⟩
      have wg := kng.wf wf
      have v3' := ldq_kn v2' wf kng
      have o1' := o1.kp wf kng id
      obtain ⟨ba, ca, ea, _⟩ := o1'.ex
      obtain ⟨bb, cb', eb, _⟩ := o2.ex
      subst ea eb
      refine run1 ?_
      refine Wd.val rfl (Xv.build (cs := [.slice (some ⟨ba, 0, none⟩) x.1.2.1.length ca, .slice (some ⟨bb, 0, none⟩) x.1.2.2.length cb', .bool x.2]) rfl (by generalize x.2 = g; cases g <;> rfl)) rfl (Nat.le_refl _) ?_
      refine run1 ?_
      have kndg : Kn sd sg := (kne.trans knf).trans kng
      have kk := (m3.kp wd kndg id).kp wg (mkRow_kn (cs := [.slice (some ⟨ba, 0, none⟩) x.1.2.1.length ca, .slice (some ⟨bb, 0, none⟩) x.1.2.2.length cb', .bool x.2])) id
      have hcl3 : (chl C' ++ zc3 (m - j)).length = j * 3 + (m - j) * 3 := by rw [List.length_append, chl_length, zc3_length, hC'l]
      refine Wd.appc rfl rfl rfl rfl rfl rfl rfl rfl kk rfl (cells_at mkRow_sl.at rfl (by decide)) rfl (by intro v hv; simp only [List.mem_cons, List.not_mem_nil, or_false] at hv; rcases hv with rfl | rfl | rfl <;> rfl) rfl (by omega) (by omega) (by omega) (by omega) ?_
      intro sh j1 j2 j3
      have w10 : Wf (mkRow sg [.slice (some ⟨ba, 0, none⟩) x.1.2.1.length ca, .slice (some ⟨bb, 0, none⟩) x.1.2.2.length cb', .bool x.2]) := mkRow_wf wg
      have hz : m - j = (m - (j + 1)) + 1 := by omega
      rw [hz, zc3_lov (by rw [chl_length, hC'l])] at j1
      refine run1 ?_
      have nd1 := kne.le
      have nd2 := knf.le
      have nd0 := m2.le
      have ndc : sc.nx < sd.nx := (m3.lt wd).2
      refine rnd.n (j + 1, sh, C' ++ [(((.slice (some ⟨ba, 0, none⟩) x.1.2.1.length ca, .slice (some ⟨bb, 0, none⟩) x.1.2.2.length cb'), x.1.2), x.2)]) ⟨hj, ?_, ?_, ?_, ?_⟩ (by show m - (j + 1) < m - j; omega) (.cons rfl (.cons rfl (.cons rfl (.cons rfl (.cons rfl (.cons rfl (.cons rfl (.cons rfl .nil)))))))) rfl rfl
      · exact Kn.app ((m2.trans kndg).trans mkRow_kn) j3 (Nat.le_refl _)
      · show Rw sh sc.nx (chl (C' ++ _) ++ zc3 (m - (j + 1))) sc.nx
        rw [chl_app]; exact j1
      · intro y hy
        rcases List.mem_append.1 hy with hy | hy
        · obtain ⟨g, g', h1, h2, h3, h4⟩ := m4 y hy
          exact ⟨g, g', ((h1.kp wd kndg id).kp wg mkRow_kn id).kp w10 j3 (by omega), ((h2.kp wd kndg id).kp wg mkRow_kn id).kp w10 j3 (by omega), h3, h4⟩
        · rw [List.mem_singleton] at hy
          subst hy
          exact ⟨g1, g2, (o1'.kp wg mkRow_kn id).kp w10 j3 (by omega), (o2.kp wg mkRow_kn id).kp w10 j3 (by omega), by omega, by omega⟩
      · show (C' ++ _).map _ = _
        rw [(take_at hx).2.1, List.map_append, List.map_append, m5]; rfl
    have hje : j = m := by omega
    subst hje
    rw [Nat.sub_self, show zc3 0 = [] from rfl, List.append_nil] at m3
    rw [List.take_of_length_le (by omega)] at m5
    have AC : At sd (some ⟨sc.nx, 0, none⟩) (chl C') := by
      have := (m3.sl (o := 0) (n := (chl C').length) (by omega)).at
      rwa [List.drop_zero, List.take_length] at this
    have knpd : Kn sp sd := knc.trans m2
    obtain ⟨hcD, hkcD⟩ := gr0 (kup m2)
    refine run1 ?_
    -- the reference
    refine Wo.call rfl (Xc.call ok12 rfl) rfl ((rapply_E f2 f3 hm'.symm wd (f1.kn wp knpd) (els_kp f4 wp (kup knpd)) hcD hkcD (by omega)).mono ?_)
    rintro v sm ⟨qm, cm, Dm, rfl, Am, hDm, hkm, hlm, knm⟩
    have wm := knm.wf wd
    refine run1 ?_
    have Pm := Pc.kpN wc (kup (m2.trans knm))
    obtain ⟨l2, _, e2, h2l, A2, hk2⟩ := Pm.els
    have OCm : OwnCh sm sc.nx C' := m4.kp wd knm fun _ _ _ => id
    have hmC' : ∀ x ∈ C', x.1.2.1.length < 2 ^ 40 ∧ x.1.2.2.length < 2 ^ 40 := fun x hx => by
      have : (x.1.2, x.2) ∈ C.map (fun x => (x.1.2, x.2)) := by rw [← m5]; exact List.mem_map_of_mem hx
      obtain ⟨y, hy, e⟩ := List.mem_map.1 this
      injection e with e1 _
      have := hmc y hy
      rw [← e1]; omega
    have ACm := AC.kn wd knm
    -- the program
    refine Wo.call rfl (Xc.call ok13 rfl) rfl ((papply_E e2 h2l hC'l m5 wm A2 hk2 ACm OCm.ok (by omega) f6 hmC').mono ?_)
    rintro v sg ⟨qg, cg, Mg, rfl, Ag, hMg, Fg, hlg, kng⟩
    have wg := kng.wf wm
    have hq0 : ¬ (aerr Ei C ≠ aerr Ei C) := fun h => h rfl
    have hq1 : aout Ei C = aout Ei C := rfl
    refine run1 ?_
    have entg : Ent sg (ecs Mg) (aout Ei C) := by have := ecs_ent Fg.ok; rwa [hMg] at this
    have entm : ∀ {st : St}, Kn sm st → Ent st (cel Dm) (aout Ei C) := fun {st} k => by
      have := cel_ent (els_kp hkm wd (kup (knm.trans k)))
      rwa [hDm] at this
    refine Wo.call (gT' rfl hq0) (Xc.call ok7 rfl) rfl ((sames_E rfl rfl Ag entg (Am.kn wm kng) (entm kng) (by omega) (by omega)).mono ?_)
    rintro v s' ⟨rfl, e'⟩
    rw [e']; clear e' s'
    refine run1 ?_
    refine Wo.call rfl (Xc.call ok13 rfl) rfl ((papply_E e2 h2l hC'l m5 wg (A2.kn wm kng) (els_kp hk2 wm (kup kng)) (ACm.kn wm kng) (OCm.ok.kn wm kng) (by omega) f6 hmC').mono ?_)
    rintro v sh ⟨qh, ch, Mh, rfl, Ah, hMh, Fh, hlh, knh⟩
    have wh := knh.wf wg
    have knmh : Kn sm sh := kng.trans knh
    refine run1 ?_
    -- both
    have wA : Wf (mkRow sh []) := mkRow_wf wh
    have nxA : (mkRow sh []).nx = sh.nx + 1 := rfl
    have Ag1 := (Ag.kn wg knh).kn wh (mkRow_kn (cs := []))
    obtain ⟨Z, hZ⟩ : ∃ Z, Z = (aout Ei C).length := ⟨_, rfl⟩
    rw [← hZ] at hlg hlh hlm ⊢
    refine Wo.app2 rfl rfl rfl rfl rfl rfl rfl rfl rfl wA (Gw.mk0 (cs := []) (n := 0) (size := 2) rfl) rfl (cells_at Ag1 (by rw [ecs_length, hlg]) (by decide)) (by rw [ecs_length, hlg]) ecs_one rfl (by omega) (by omega) ?_
    intro q8 c8 γ8 s8 G8 K8 h8
    have KA8 : Kp (fun c => sh.nx ≤ c) sh s8 := (kup mkRow_kn).trans (K8.mono fun c h => by rw [h.2]; exact Nat.le_refl _)
    have w8 := KA8.wf wh
    have nx8 := KA8.le
    have hγ8 : sh.nx ≤ γ8 := by rcases h8 with ⟨_, h⟩ | h <;> omega
    refine run1 ?_
    refine Wo.app2 rfl rfl rfl rfl rfl rfl rfl rfl rfl w8 G8 rfl (cells_at (At.kpN Ah wh KA8) (by rw [ecs_length, hlh]) (by decide)) (by rw [ecs_length, hlh]) ecs_one rfl (by omega) (by omega) ?_
    intro qb cb γb sb Gb Kb hb
    have KAb : Kp (fun c => sh.nx ≤ c) sh sb := KA8.trans (Kb.mono fun c h => by rw [h.2]; exact hγ8)
    have wb := KAb.wf wh
    have nxb := KAb.le
    have hγb : sh.nx ≤ γb := by rcases hb with ⟨_, h⟩ | h <;> omega
    have Kmb : Kp (fun c => sm.nx ≤ c) sm sb := kup2 (kup knmh) KAb
    refine run1 ?_
    have enth : Ent sb (ecs Mh) (aout Ei C) := by have := ecs_ent (Fh.kpN wh KAb).ok; rwa [hMh] at this
    have entmb : Ent sb (cel Dm) (aout Ei C) := by
      have := cel_ent (els_kp hkm wd (kup2 (kup knm) Kmb))
      rwa [hDm] at this
    refine Wo.call rfl (Xc.call ok7 rfl) rfl ((sames_E hZ.symm hZ.symm (At.kpN Ah wh KAb) enth (At.kpN Am wm Kmb) entmb (by omega) (by omega)).mono ?_)
    rintro v s' ⟨rfl, e'⟩
    rw [e']; clear e' s'
    refine run1 ?_
    have Kpb : Kp (fun c => sp.nx ≤ c) sp sb := kup2 (kup (knpd.trans knm)) Kmb
    have enti : Ent sb (cel li) Ei := by have := cel_ent (els_kp f4 wp Kpb); rwa [f2] at this
    refine Wo.call rfl (Xc.call ok8 rfl) rfl ((wholes_E (Pm.kpN wm Kmb) (At.kpN f1 wp Kpb) enti (by omega)).mono ?_)
    rintro v s' ⟨rfl, e'⟩
    rw [e']; clear e' s'
    refine run1 ?_
    have ltg : ∀ x ∈ efl Mg, x.q ≠ none → sm.nx ≤ x.γ ∧ x.γ < sg.nx := fun x hx hq => ⟨(Fg.ok x hx).lo hq, Fg.lt wg hx hq⟩
    have lth : ∀ x ∈ efl Mh, x.q ≠ none → sg.nx ≤ x.γ ∧ x.γ < sh.nx := fun x hx hq => ⟨(Fh.ok x hx).lo hq, Fh.lt wh hx hq⟩
    have nxg := kng.le
    have nxh := knh.le
    have GbM : Gw sb qb (0 + Z + Z) cb 2 (ecs (Mg ++ Mh)) γb := by rw [ecs_app]; rw [List.nil_append] at Gb; exact Gb
    have FM : Fc sb sm.nx (efl (Mg ++ Mh)) := by
      rw [efl_app]
      exact (((Fg.kp wg knh fun _ _ _ => id).kpN wh KAb).app (Fh.kpN wh KAb) (by omega) fun x hx y hy a1 a2 => by have := ltg x hx a1; have := lth y hy a2; omega)
    have hall : ∀ x ∈ efl (Mg ++ Mh), x.q ≠ none → sm.nx ≤ x.γ ∧ x.γ < sh.nx := fun x hx hq => by
      rw [efl_app] at hx
      rcases List.mem_append.1 hx with hx | hx
      · have := ltg x hx hq; omega
      · have := lth x hx hq; omega
    refine Wo.call rfl (Xc.call ok10 rfl) rfl ((lapart_E (by rw [List.length_append, hlg, hlh]; omega) wb GbM FM (fun x hx a1 _ => by have := hall x hx a1; omega) (by omega)).mono ?_)
    rintro v sz ⟨rfl, Kz⟩
    have Kmz : Kp (fun c => sm.nx ≤ c) sm sz := Kmb.trans (Kz.mono fun c h => by
      rcases h with ⟨x, hx, hq, rfl⟩ | ⟨_, h⟩ | h
      · exact (hall x hx hq).1
      · have := knmh.le; omega
      · have := knmh.le; omega)
    have wz := Kmz.wf wm
    have Kpz : Kp (fun c => sp.nx ≤ c) sp sz := kup2 (kup (knpd.trans knm)) Kmz
    have OCz : OwnCh sz sc.nx C' := OCm.kp wm Kmz fun g _ h => by omega
    have ACz := At.kpN ACm wm Kmz
    have hcZ := At.kpN hcP wp Kpz
    have hkcZ := hkcP.kpN wp Kpz
    refine run1 ?_
    refine W.loop (α := Nat) (fun p => [(0, .slice q i c), (1, .slice r j d), (7, .slice qw K cw), (13, nI ps), (15, .slice (some ⟨sc.nx, 0, none⟩) j (sure j)), (22, nI p)]) (fun _ => []) (fun _ => sz)
      (fun p => p ≤ j) (fun p => j - p) 0 (Nat.zero_le _) (.cons rfl (.cons rfl (.cons rfl (.cons rfl (.cons rfl (.cons rfl .nil)))))) rfl rfl (by omega) ?_
    intro t ht
    by_cases htj : t < j
    · obtain ⟨x, hx⟩ := at_lt (l := C) (k := t) (by omega)
      obtain ⟨y, hy⟩ := at_lt (l := C') (k := t) (by omega)
      have exy : (y.1.2, y.2) = (x.1.2, x.2) := by
        have := congrArg (fun L => L[t]?) m5
        rw [List.getElem?_map, List.getElem?_map, hx, hy] at this
        injection this
      injection exy with ex1 ex2
      obtain ⟨gr, q1, c1, q3, c3, _, _, _, r0, r1, r2, y1, y2, z1, z2⟩ := ch_ld hcZ hkcZ hx
      obtain ⟨gr', q5, c5, q6, c6, w5, w6, _, p0, p1', p2', _, _, _, _⟩ := ch_ld ACz OCz.ok hy
      obtain ⟨ga, gb, oa, ob, _, _⟩ := OCz y (List.mem_of_getElem? hy)
      rw [w5] at oa
      rw [w6] at ob
      rw [ex1] at oa ob p0 p1'
      rw [ex2] at p2'
      refine run1 ?_
      refine W.dr [(0, .none, 0), (1, .none, 0), (2, .none, 3), (3, .none, 7), (4, .reads, 15), (5, .none, 0), (6, .none, 0), (7, .none, 96), (8, .none, 224), (9, .reads, 480), (10, .acts, 1023), (11, .none, 2047), (12, .none, 4095), (13, .none, 8191), (14, .none, 8191), (15, .none, 32767), (16, .none, 65535), (17, .reads, 131071), (18, .none, 8191), (19, .none, 8191), (20, .none, 794623), (21, .none, 1843199), (22, .reads, 3940351), (23, .acts, 8388607), (24, .none, 16777215), (25, .none, 33554431), (26, .none, 67108863), (27, .none, 134217727), (28, .none, 134217727), (29, .none, 536870911), (30, .none, 1073741823), (31, .reads, 2147483647), (32, .none, 134217727), (33, .none, 134217727), (34, .none, 13019119615), (35, .none, 30198988799), (36, .reads, 64558727167), (37, .none, 137438953471), (38, .none, 274877906943)] (by kernel_rfl) rfl ?_
      refine run1 ?_
      refine Wd.call rfl (Xc.call ok14 rfl) rfl ((whole1 oa y1 z1).mono ?_)
      rintro v s' ⟨rfl, e'⟩
      rw [e']; clear e' s'
      refine ⟨Nat.le_refl _, ?_⟩
      refine run1 ?_
      refine Wd.call rfl (Xc.call ok14 rfl) rfl ((whole1 ob y2 z2).mono ?_)
      rintro v s' ⟨rfl, e'⟩
      rw [e']; clear e' s'
      refine ⟨Nat.le_refl _, ?_⟩
      refine run1 ?_
      refine Wd.val rfl (Xv.neB rfl rfl (B.un (t := 4) rfl)) rfl (Nat.le_refl _) ?_
      refine run1 ?_
      exact rnd.n (t + 1) htj (by omega) (.cons rfl (.cons rfl (.cons rfl (.cons rfl (.cons rfl (.cons rfl .nil)))))) rfl rfl
    · refine run1 ?_
      exact rnd.n (ps + 1, sz) ⟨hps, p2.trans (Kpz.mono fun c h => by have := p2.le; omega)⟩ (by show 2 - (ps + 1) < 2 - ps; omega) (.cons rfl (.cons rfl (.cons rfl (.cons rfl .nil)))) rfl rfl
  · refine run1 ?_
    refine Wo.call rfl (Xc.call ok15 rfl) rfl ((fixed_ok (hT.kpN w Kp0)).mono ?_)
    rintro v s' ⟨rfl, e'⟩
    rw [e']; clear e' s'
    refine run1 ?_
    exact Lv.ret rfl rfl
end Go.Proofs.YtdibpdpcbnijeaaGreatDoor
