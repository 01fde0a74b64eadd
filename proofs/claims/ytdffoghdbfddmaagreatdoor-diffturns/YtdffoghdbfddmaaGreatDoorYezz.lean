import Derived.Test.YtdffoghdbfddmaaGreatDoorCt2zz
/-
  cairnref24.Changes, cairnref24.Back.
-/
namespace Go.Proofs.YtdffoghdbfddmaaGreatDoor
open Go Go.Ev Go.Sy
set_option maxRecDepth 100000
variable {s : St} {q r : Option Addr} {c d : Nat} {M N : List Nat}
theorem rchanges_ok {l : List Dl} {n : Nat} (hn : l.length = n) (w : Wf s) (ha : At s q (dcs l)) (hk : ∀ x ∈ l, DlOk s x) (hl : n * 80 ≤ 140737488351232) (hm : ∀ x ∈ l, x.x.K.length ≤ 140737488351232 ∧ x.x.O.length ≤ 140737488351232 ∧ x.x.V.length ≤ 140737488351232) :
    Cl B (.call 7 [.slice q n c]) s fun v s' => ∃ q' c' γ M, v = .slice q' n c' ∧ Rg 3 s.nx s' q' n c' γ (gcs M) (gfl M) ∧ gxs M = (dxs l).map chv ∧ Kn s s' := by
  refine Cl.enter Tryz.f7 fn7 rfl rfl rfl ?_
  refine run1 ?_
  refine W.loop (α := Nat × St × (Option Addr × Nat × Nat) × List Gc) (fun p => [(0, .slice q n c), (3, .slice p.2.2.1.1 p.1 p.2.2.1.2.1), (4, nI p.1)]) (fun _ => []) (fun p => p.2.1)
    (fun p => p.1 ≤ n ∧ Kn s p.2.1 ∧ Rg 3 s.nx p.2.1 p.2.2.1.1 p.1 p.2.2.1.2.1 p.2.2.1.2.2 (gcs p.2.2.2) (gfl p.2.2.2) ∧ gxs p.2.2.2 = ((dxs l).map chv).take p.1)
    (fun p => n - p.1) (0, s, (none, 0, 0), []) ⟨Nat.zero_le _, .refl, Rg.nil, rfl⟩ (.cons rfl (.cons rfl (.cons rfl .nil))) rfl rfl (by show n - 0 < _; omega) ?_
  rintro ⟨i, s1, ⟨qo, co, γo⟩, M⟩ ⟨k1, k2, k3, k4⟩
  dsimp only at k1 k2 k3 k4 ⊢
  have w1 := k2.wf w
  by_cases hi : i < n
  · obtain ⟨x, hx⟩ := at_lt (l := l) (k := i) (by omega)
    have hat := ha.kn w k2
    have hok : ∀ y ∈ l, DlOk s1 y := fun y hy => (hk y hy).kn w k2
    obtain ⟨q1, c1, q2, c2, q3, c3, _, gq, ldx, ⟨l0, l1, l2, l3, l4⟩, b1, b2, b3⟩ := dl_ld hat hok hx
    obtain ⟨m1, m2, m3⟩ := hm x (List.mem_of_getElem? hx)
    refine run1 ?_
    refine W.dr [(0, .none, 0), (1, .none, 0), (2, .none, 3), (3, .none, 7), (4, .reads, 15), (5, .acts, 31), (6, .none, 0), (7, .none, 0), (8, .none, 192), (9, .none, 448), (10, .reads, 960), (11, .none, 1984), (12, .none, 4095), (13, .makes, 0), (14, .acts, 16383)] (by kernel_rfl) rfl ?_
    refine run1 ?_
    refine Wd.call rfl (Xc.call ok15 rfl) rfl ((copied_ok w1 b1 (by omega)).mono ?_)
    rintro v1 s3 ⟨y, rfl, ey, oy, kn3⟩
    refine ⟨kn3.le, ?_⟩
    have w3 := kn3.wf w1
    have l4' := ldq_kn l4 w1 kn3
    have l2' := ldq_kn l2 w1 kn3
    refine run1 ?_
    refine Wd.val rfl (Xv.build (cs := [y.v, .slice none 0 0, .bool (!x.x.is)]) rfl (by unfold Ce.v; generalize (!x.x.is) = g; cases g <;> rfl)) rfl (Nat.le_refl _) ?_
    refine run1 ?_
    refine Wd.st rfl rfl rfl rfl rfl rfl rfl (by intro v hv; simp only [List.mem_cons, List.not_mem_nil, or_false] at hv; rcases hv with rfl | rfl | rfl <;> rfl) mkRow_rw (by decide) ?_
    intro s4 a1 a2 a3
    have kn4 : Kn s3 s4 := Kn.app mkRow_kn a3 (Nat.le_refl _)
    have w4 := kn4.wf w3
    have R4 : Rw s4 s3.nx [y.v, .slice none 0 0, .bool (!x.x.is)] s3.nx := a1
    have nx4 : s4.nx = s3.nx + 1 := a2
    have n2 := ldq_kn l2' w3 kn4
    have n4 := ldq_kn l4' w3 kn4
    have k14 : Kn s1 s4 := kn3.trans kn4
    have o4 : CeOk s4 s1.nx y := ⟨oy.gw.keep w3 kn4 fun _ => id, oy.lo, oy.sm⟩
    have gc : good (some (⟨s3.nx, 0, none⟩ : Addr)) := ⟨_, _, rfl⟩
    have hxi : (dxs l)[i]? = some x.x := by unfold dxs; rw [List.getElem?_map, hx]; rfl
    have htk : ((dxs l).map chv).take (i + 1) = ((dxs l).map chv).take i ++ [chv x.x] := (take_at (by rw [List.getElem?_map, hxi]; rfl)).2.1
    have hlo := k2.le
    cases hb : x.x.is with
    | false =>
      rw [hb] at R4 n4
      have ldc := loc3 R4
      refine run1 ?_
      refine Wo.app2 rfl rfl rfl rfl rfl rfl rfl rfl rfl (mkRow_wf w4) ((k3.gw.keep w1 k14 fun _ => id).keep w4 mkRow_kn fun _ => id) rfl (cells_at mkRow_sl.at rfl (by decide)) rfl (by intro v hv; simp only [List.mem_cons, List.not_mem_nil, or_false] at hv; rcases hv with rfl | rfl | rfl <;> rfl) rfl (by omega) (by omega) ?_
      intro q5 c5 γ5 s5 G5 K5 h5
      refine run1 ?_
      have hF : Fc s4 s1.nx [y, ⟨none, 0, 0, []⟩] := fc2 w4 o4 .refl ⟨Gw.nil, fun h => absurd rfl h, by show (0 : Nat) < 2 ^ 47; decide⟩ k14.le
      refine rnd.n (i + 1, s5, (q5, c5, γ5), M ++ [(y, ⟨none, 0, 0, []⟩, true)]) ⟨hi, k3.keep k2 k14 mkRow_kn K5, ?_, ?_⟩ (by show n - (i + 1) < n - i; omega) (.cons rfl (.cons rfl (.cons rfl .nil))) rfl rfl
      · rw [gcs_app, gfl_app]
        exact k3.step w1 hlo k14 hF mkRow_kn (Nat.le_succ _) (fun z hz h => hF.lt w4 hz h) G5 K5 h5
      · rw [gxs_app, k4, htk]
        unfold chv
        rw [hb, ← ey]; rfl
    | true =>
      rw [hb] at R4 n4
      refine run1 ?_
      refine Wo.call rfl (Xc.call ok15 rfl) rfl ((copied_ok w4 (b3.kn w1 k14) (by omega)).mono ?_)
      rintro v2 s5 ⟨z, rfl, ez, oz, kn5⟩
      have w5 := kn5.wf w4
      refine run1 ?_
      refine Wo.st rfl rfl rfl rfl rfl rfl rfl (by intro v hv; simp only [List.mem_cons, List.not_mem_nil, or_false] at hv; rcases hv with rfl; rfl) (R4.kp w4 kn5 id) (by show 2 ≤ 3; decide) ?_
      intro s6 d1 d2 d3
      have R6 : Rw s6 s3.nx [y.v, z.v, .bool false] s3.nx := d1
      have ldc := loc3 R6
      have k35 : Kn s3 s5 := kn4.trans kn5
      have k36 : Kn s3 s6 := Kn.app k35 d3 (Nat.le_refl _)
      have w6 := k36.wf w3
      have hn5 := kn5.le
      refine run1 ?_
      have k16 : Kn s1 s6 := kn3.trans k36
      refine Wo.app2 rfl rfl rfl rfl rfl rfl rfl rfl rfl (mkRow_wf w6) ((k3.gw.keep w1 k16 fun _ => id).keep w6 mkRow_kn fun _ => id) rfl (cells_at mkRow_sl.at rfl (by decide)) rfl (by intro v hv; simp only [List.mem_cons, List.not_mem_nil, or_false] at hv; rcases hv with rfl | rfl | rfl <;> rfl) rfl (by omega) (by omega) ?_
      intro q5 c5 γ5 s7 G5 K5 h5
      refine run1 ?_
      have oz6 : CeOk s6 s3.nx z := ⟨oz.gw.keep w5 d3 fun h e => by have := oz.lo h; omega, fun h => by have := oz.lo h; omega, oz.sm⟩
      have hF : Fc s6 s1.nx [y, z] := fc2 w3 oy k36 oz6 kn3.le
      refine rnd.n (i + 1, s7, (q5, c5, γ5), M ++ [(y, z, false)]) ⟨hi, k3.keep k2 k16 mkRow_kn K5, ?_, ?_⟩ (by show n - (i + 1) < n - i; omega) (.cons rfl (.cons rfl (.cons rfl .nil))) rfl rfl
      · rw [gcs_app, gfl_app]
        exact k3.step w1 hlo k16 hF mkRow_kn (Nat.le_succ _) (fun u hu h => hF.lt w6 hu h) G5 K5 h5
      · rw [gxs_app, k4, htk]
        unfold chv
        rw [hb, ← ey, ← ez]; rfl
  · refine run1 ?_
    have hie : i = n := by omega
    subst hie
    rw [List.take_of_length_le (by rw [List.length_map]; unfold dxs; rw [List.length_map]; omega)] at k4
    exact Lv.ret rfl ⟨qo, co, γo, M, rfl, k3, k4, k2⟩
theorem rback_ok {l : List Dl} {n : Nat} (hn : l.length = n) (w : Wf s) (ha : At s q (dcs l)) (hk : ∀ x ∈ l, DlOk s x) (hl : n * 80 ≤ 140737488351232) (hm : ∀ x ∈ l, x.x.K.length ≤ 140737488351232 ∧ x.x.O.length ≤ 140737488351232 ∧ x.x.V.length ≤ 140737488351232) :
    Cl B (.call 9 [.slice q n c]) s fun v s' => ∃ q' c' γ M, v = .slice q' n c' ∧ Rg 5 s.nx s' q' n c' γ (dcs (ddl M)) (dfl M) ∧ dxs (ddl M) = (dxs l).map bkv ∧ Kn s s' := by
  refine Cl.enter Tryz.f9 fn9 rfl rfl rfl ?_
  refine run1 ?_
  refine W.loop (α := Nat × St × (Option Addr × Nat × Nat) × List Gd) (fun p => [(0, .slice q n c), (3, .slice p.2.2.1.1 p.1 p.2.2.1.2.1), (4, nI p.1)]) (fun _ => []) (fun p => p.2.1)
    (fun p => p.1 ≤ n ∧ Kn s p.2.1 ∧ Rg 5 s.nx p.2.1 p.2.2.1.1 p.1 p.2.2.1.2.1 p.2.2.1.2.2 (dcs (ddl p.2.2.2)) (dfl p.2.2.2) ∧ dxs (ddl p.2.2.2) = ((dxs l).map bkv).take p.1)
    (fun p => n - p.1) (0, s, (none, 0, 0), []) ⟨Nat.zero_le _, .refl, Rg.nil, rfl⟩ (.cons rfl (.cons rfl (.cons rfl .nil))) rfl rfl (by show n - 0 < _; omega) ?_
  rintro ⟨i, s1, ⟨qo, co, γo⟩, M⟩ ⟨k1, k2, k3, k4⟩
  dsimp only at k1 k2 k3 k4 ⊢
  have w1 := k2.wf w
  by_cases hi : i < n
  · obtain ⟨x, hx⟩ := at_lt (l := l) (k := i) (by omega)
    have hat := ha.kn w k2
    have hok : ∀ y ∈ l, DlOk s1 y := fun y hy => (hk y hy).kn w k2
    obtain ⟨q1, c1, q2, c2, q3, c3, _, gq, ldx, ⟨l0, l1, l2, l3, l4⟩, b1, b2, b3⟩ := dl_ld hat hok hx
    obtain ⟨m1, m2, m3⟩ := hm x (List.mem_of_getElem? hx)
    refine run1 ?_
    refine W.dr [(1, .none, 0), (2, .none, 0), (3, .none, 6), (4, .none, 14), (5, .reads, 30), (6, .acts, 62), (7, .none, 0), (8, .none, 0), (9, .none, 384), (10, .none, 896), (11, .reads, 1920), (12, .acts, 4094), (13, .none, 0), (14, .none, 0), (15, .none, 24576), (16, .none, 57344), (17, .reads, 122880), (18, .acts, 262142), (0, .none, 0), (19, .none, 0), (20, .none, 0), (21, .none, 1572864), (22, .none, 3670016), (23, .reads, 7864320), (24, .none, 0), (25, .none, 0), (26, .none, 50331648), (27, .none, 117440512), (28, .reads, 251658240), (29, .none, 536870910), (30, .makes, 1073741822), (31, .acts, 2147483647), (32, .none, 4294967295)] (by kernel_rfl) rfl ?_
    refine run1 ?_
    refine Wd.call rfl (Xc.call ok15 rfl) rfl ((copied_ok w1 b1 (by omega)).mono ?_)
    rintro v1 s3 ⟨y, rfl, ey, oy, kn3⟩
    refine ⟨kn3.le, ?_⟩
    have w3 := kn3.wf w1
    have l1' := ldq_kn l1 w1 kn3
    have l2' := ldq_kn l2 w1 kn3
    have l3' := ldq_kn l3 w1 kn3
    have l4' := ldq_kn l4 w1 kn3
    refine run1 ?_
    refine Wd.call rfl (Xc.call ok15 rfl) rfl ((copied_ok w3 (b3.kn w1 kn3) (by omega)).mono ?_)
    rintro v2 s4 ⟨z, rfl, ez, oz, kn4⟩
    refine ⟨kn4.le, ?_⟩
    have w4 := kn4.wf w3
    have l1'' := ldq_kn l1' w3 kn4
    have l3'' := ldq_kn l3' w3 kn4
    have l4'' := ldq_kn l4' w3 kn4
    refine run1 ?_
    refine Wd.call rfl (Xc.call ok15 rfl) rfl ((copied_ok w4 ((b2.kn w1 kn3).kn w3 kn4) (by omega)).mono ?_)
    rintro v3 s5 ⟨u, rfl, eu, ou, kn5⟩
    refine ⟨kn5.le, ?_⟩
    have w5 := kn5.wf w4
    have l35 := ldq_kn l3'' w4 kn5
    have l45 := ldq_kn l4'' w4 kn5
    refine run1 ?_
    refine Wd.read rfl (Xv.ld rfl rfl rfl l45) rfl eqV_bool ⟨Xv.ld rfl rfl rfl l45, Xv.ld rfl rfl rfl l4'', Xv.ld rfl rfl rfl l4', Xv.ld rfl rfl rfl l4, trivial⟩ (run1 ?_)
    refine Wd.read rfl (Xv.ld rfl rfl rfl l35) rfl eqV_bool ⟨Xv.ld rfl rfl rfl l35, Xv.ld rfl rfl rfl l3'', Xv.ld rfl rfl rfl l3', Xv.ld rfl rfl rfl l3, trivial⟩ (run1 ?_)
    refine Wd.val rfl (Xv.build (cs := [y.v, z.v, u.v, .bool x.x.is, .bool x.x.was]) rfl (by unfold Ce.v; generalize x.x.is = g; generalize x.x.was = g'; cases g <;> cases g' <;> rfl)) rfl (Nat.le_refl _) ?_
    refine run1 ?_
    have k35 := kn4.trans kn5
    have k15 : Kn s1 s5 := kn3.trans k35
    have hlo := k2.le
    have hF : Fc s5 s1.nx [y, z, u] := fc3 (s := s1) w3 w4 oy kn4 oz kn5 ou kn3.le
    refine Wd.app2 rfl rfl rfl rfl rfl rfl rfl rfl rfl (mkRow_wf w5) ((k3.gw.keep w1 k15 fun _ => id).keep w5 mkRow_kn fun _ => id) rfl (cells_at mkRow_sl.at rfl (by decide)) rfl (by intro v hv; simp only [List.mem_cons, List.not_mem_nil, or_false] at hv; rcases hv with rfl | rfl | rfl | rfl | rfl <;> rfl) rfl (by omega) (by omega) ?_
    intro q5 c5 γ5 s7 G5 K5 h5
    refine run1 ?_
    have hxi : (dxs l)[i]? = some x.x := by unfold dxs; rw [List.getElem?_map, hx]; rfl
    have htk : ((dxs l).map bkv).take (i + 1) = ((dxs l).map bkv).take i ++ [bkv x.x] := (take_at (by rw [List.getElem?_map, hxi]; rfl)).2.1
    refine rnd.n (i + 1, s7, (q5, c5, γ5), M ++ [((y, z, u), x.x.is, x.x.was)]) ⟨hi, k3.keep k2 k15 mkRow_kn K5, ?_, ?_⟩ (by show n - (i + 1) < n - i; omega) (.cons rfl (.cons rfl (.cons rfl .nil))) rfl rfl
    · rw [ddl_app, dcs_app, dfl_app]
      exact k3.step w1 hlo k15 hF mkRow_kn (Nat.le_succ _) (fun z hz h => hF.lt w5 hz h) G5 K5 h5
    · rw [ddl_app, dxs_app, k4, htk]
      unfold bkv
      rw [← ey, ← ez, ← eu]; rfl
  · refine run1 ?_
    have hie : i = n := by omega
    subst hie
    rw [List.take_of_length_le (by rw [List.length_map]; unfold dxs; rw [List.length_map]; omega)] at k4
    exact Lv.ret rfl ⟨qo, co, γo, M, rfl, k3, k4, k2⟩
end Go.Proofs.YtdffoghdbfddmaaGreatDoor
/-
  cairnref24.Same, cairnlaw24.lists.
-/
namespace Go.Sy
open Go Go.Ev
theorem Xv.neB {X : Fx} {env : Env} {s : St} {t t' : TypeId} {x y : Operand} {a : Bool} (hx : ev env x = some (.bool a)) (hy : ev env y = some (.bool a)) (ht : X.P.underlying t = some .bool) : Xv X (.binOp .neq t x y t') env s (.bool false) s := fun tm hf => by
  show xBin X.P .neq t x y (opd tm x) (opd tm y) s = _
  rw [ev_opd hf hx, ev_opd hf hy]
  show eqA X.P .neq t x y (.bool a) (.bool a) s = _
  have h1 : pureRun X.P (Op.equal t (.bool a) (.bool a)) = some (a == a) := by
    show pureRun X.P (underlying t >>= _) = _
    rw [Go.Sy.pureRun_bind, pureRun_und ht]; rfl
  have h2 : pureRun X.P (do eqGuard .neq t x y (.bool a) (.bool a); binOp .neq t (.bool a) (.bool a)) = some (.bool (!(a == a))) := by
    show pureRun X.P (Op.equal t (.bool a) (.bool a) >>= fun r => pure (Value.bool (!r))) = _
    rw [Go.Sy.pureRun_bind, h1]; rfl
  have h3 : eqNil (some .bool) (.bool a) (.bool a) = none := rfl
  unfold eqA
  simp only [ht, h3]
  show ofPure X.P _ s = _
  unfold ofPure
  rw [h2]
  cases a <;> rfl
end Go.Sy
namespace Go.Proofs.YtdffoghdbfddmaaGreatDoor
open Go Go.Ev Go.Sy
set_option maxRecDepth 100000
variable {s : St} {q r : Option Addr} {c d : Nat} {M N : List Nat}
theorem dsame_ok {l m : List Dl} {n : Nat} (hn : l.length = n) (he : dxs m = dxs l) (ha : At s q (dcs l)) (hk : ∀ x ∈ l, DlOk s x) (hb : At s r (dcs m)) (hk' : ∀ x ∈ m, DlOk s x) (hl : n * 80 ≤ 140737488351232) :
    Cl B (.call 8 [.slice q n c, .slice r n d]) s fun v s' => v = .bool true ∧ s' = s := by
  have hm : m.length = n := by have := congrArg List.length he; unfold dxs at this; rw [List.length_map, List.length_map] at this; omega
  refine Cl.enter Tryz.f8 fn8 rfl rfl rfl ?_
  have hnn : ¬ n ≠ n := fun h => h rfl
  refine run1 ?_
  refine W.loop (α := Nat) (fun i => [(0, .slice q n c), (1, .slice r n d), (5, nI i)]) (fun _ => []) (fun _ => s)
    (fun i => i ≤ n) (fun i => n - i) 0 (Nat.zero_le _) (.cons rfl (.cons rfl (.cons rfl .nil))) rfl rfl (by omega) ?_
  intro i k1
  by_cases hi : i < n
  · obtain ⟨x, hx⟩ := at_lt (l := l) (k := i) (by omega)
    obtain ⟨y, hy⟩ := at_lt (l := m) (k := i) (by omega)
    have exy : y.x = x.x := by
      have := congrArg (fun L => L[i]?) he
      unfold dxs at this
      rw [List.getElem?_map, List.getElem?_map, hx, hy] at this
      injection this
    obtain ⟨q1, c1, q2, c2, q3, c3, _, gq, _, ⟨l0, l1, l2, l3, l4⟩, b1, b2, b3⟩ := dl_ld ha hk hx
    obtain ⟨r1, d1, r2, d2, r3, d3, _, gr, _, ⟨n0, n1, n2, n3, n4⟩, e1, e2, e3⟩ := dl_ld hb hk' hy
    rw [exy] at n0 n1 n2 n3 n4 e1 e2 e3
    refine run1 ?_
    refine W.dr [(0, .none, 0), (1, .none, 0), (2, .none, 3), (3, .none, 7), (4, .reads, 15), (5, .reads, 31), (6, .none, 0), (7, .none, 0), (8, .none, 192), (9, .none, 448), (10, .reads, 960), (11, .reads, 1984), (12, .none, 4095), (13, .none, 8191), (14, .none, 16383), (15, .none, 16383), (16, .none, 65535), (17, .none, 131071), (18, .reads, 262143), (19, .reads, 524287), (20, .none, 16383), (21, .none, 16383), (22, .none, 3162111), (23, .none, 7356415), (24, .reads, 15745023), (25, .reads, 32522239), (26, .none, 67108863), (27, .none, 134217727), (28, .none, 268435455), (29, .none, 536870911), (30, .none, 536870911), (31, .none, 2147483647), (32, .none, 4294967295), (33, .reads, 8589934591), (34, .reads, 17179869183), (35, .none, 536870911), (36, .none, 536870911), (37, .none, 103616086015), (38, .none, 241055039487), (39, .reads, 515932946431), (40, .reads, 1065688760319), (41, .none, 2199023255551), (42, .none, 4398046511103), (43, .none, 8796093022207), (44, .none, 17592186044415), (45, .none, 17592186044415), (46, .none, 70368744177663), (47, .none, 140737488355327), (48, .reads, 281474976710655), (49, .none, 17592186044415), (50, .none, 17592186044415), (51, .none, 1706442046308351), (52, .none, 3958241859993599), (53, .reads, 8461841487364095), (54, .none, 18014398509481983), (55, .none, 36028797018963967), (56, .none, 72057594037927935), (57, .none, 144115188075855871), (58, .none, 144115188075855871), (59, .none, 576460752303423487), (60, .none, 1152921504606846975), (61, .reads, 2305843009213693951), (62, .none, 144115188075855871), (63, .none, 144115188075855871), (64, .none, 13979173243358019583), (65, .none, 32425917317067571199), (66, .reads, 69319405464486674431), (67, .none, 147573952589676412927), (68, .none, 295147905179352825855)] (by kernel_rfl) rfl ?_
    have u1 : ¬ strB x.x.K ≠ strB x.x.K := fun h => h rfl
    have u2 : ¬ strB x.x.O ≠ strB x.x.O := fun h => h rfl
    have u3 : ¬ strB x.x.V ≠ strB x.x.V := fun h => h rfl
    refine run1 ?_
    refine Wd.read rfl (Xv.b2s rfl rfl rfl rfl b1) rfl eqV_str ⟨Xv.b2s rfl rfl rfl rfl b1, trivial⟩ (run1 ?_)
    refine Wd.read rfl (Xv.b2s rfl rfl rfl rfl e1) rfl eqV_str ⟨Xv.b2s rfl rfl rfl rfl e1, trivial⟩ (run1 ?_)
    refine Wd.val rfl (Xv.sne rfl rfl) rfl (Nat.le_refl _) (run1 ?_)
    refine Wd.read (gT' rfl u1) (Xv.b2s rfl rfl rfl rfl b2) rfl eqV_str ⟨Xv.b2s rfl rfl rfl rfl b2, trivial⟩ (run1 ?_)
    refine Wd.read (gT' rfl u1) (Xv.b2s rfl rfl rfl rfl e2) rfl eqV_str ⟨Xv.b2s rfl rfl rfl rfl e2, trivial⟩ (run1 ?_)
    refine Wd.val (gT' rfl u1) (Xv.sne rfl rfl) rfl (Nat.le_refl _) (run1 ?_)
    refine Wd.read (gT' rfl u2) (Xv.b2s rfl rfl rfl rfl b3) rfl eqV_str ⟨Xv.b2s rfl rfl rfl rfl b3, trivial⟩ (run1 ?_)
    refine Wd.read (gT' rfl u2) (Xv.b2s rfl rfl rfl rfl e3) rfl eqV_str ⟨Xv.b2s rfl rfl rfl rfl e3, trivial⟩ (run1 ?_)
    refine Wd.val (gT' rfl u2) (Xv.sne rfl rfl) rfl (Nat.le_refl _) (run1 ?_)
    refine Wd.val (gT' rfl u3) (Xv.neB rfl rfl (B.un (t := 4) rfl)) rfl (Nat.le_refl _) (run1 ?_)
    refine Wd.val rfl (Xv.neB rfl rfl (B.un (t := 4) rfl)) rfl (Nat.le_refl _) (run1 ?_)
    exact rnd.n (i + 1) (by omega) (by omega) (.cons rfl (.cons rfl (.cons rfl .nil))) rfl rfl
  · refine run1 ?_
    exact Lv.ret rfl ⟨rfl, rfl⟩
/-- All lists of differences. -/
def fl3 (l : List Dl) : List Value := l.flatMap fun d => [d.k, d.o, d.v]
theorem lists_ok {l : List Dl} {n : Nat} (hn : l.length = n) (w : Wf s) (ha : At s q (dcs l)) (hk : ∀ x ∈ l, DlOk s x) (hl : n * 80 ≤ 140737488351232) :
    Cl B (.call 11 [.slice q n c]) s fun v s' => ∃ q' c' γ, v = .slice q' (n * 3) c' ∧ Gw s' q' (n * 3) c' 1 (fl3 l) γ ∧ (q' ≠ none → s.nx ≤ γ) ∧ Kn s s' := by
  refine Cl.enter Tryz.f11 fn11 rfl rfl rfl ?_
  refine run1 ?_
  refine W.loop (α := Nat × St × (Option Addr × Nat × Nat)) (fun p => [(3, .slice p.2.2.1 (p.1 * 3) p.2.2.2.1), (6, .slice q n c), (7, nI n), (8, nI p.1)]) (fun _ => []) (fun p => p.2.1)
    (fun p => p.1 ≤ n ∧ Kn s p.2.1 ∧ Gw p.2.1 p.2.2.1 (p.1 * 3) p.2.2.2.1 1 (fl3 (l.take p.1)) p.2.2.2.2 ∧ (p.2.2.1 ≠ none → s.nx ≤ p.2.2.2.2))
    (fun p => n - p.1) (0, s, (none, 0, 0)) ⟨Nat.zero_le _, .refl, Gw.nil, fun h => absurd rfl h⟩ (.cons rfl (.cons rfl (.cons rfl (.cons rfl .nil)))) rfl rfl (by show n - 0 < _; omega) ?_
  rintro ⟨i, s1, qo, co, γo⟩ ⟨k1, k2, k3, k4⟩
  dsimp only at k1 k2 k3 k4 ⊢
  have w1 := k2.wf w
  by_cases hi : i < n
  · obtain ⟨x, hx⟩ := at_lt (l := l) (k := i) (by omega)
    obtain ⟨q1, c1, q2, c2, q3, c3, ⟨y1, y2, y3⟩, gq, ldx, _, b1, b2, b3⟩ := dl_ld (ha.kn w k2) (fun y hy => (hk y hy).kn w k2) hx
    refine run1 ?_
    refine Wo.st rfl rfl rfl rfl rfl rfl rfl (by intro v hv; simp only [List.mem_cons, List.not_mem_nil, or_false] at hv; rcases hv with rfl | rfl | rfl | rfl | rfl <;> rfl) mkRow_rw (by decide) ?_
    intro s2 j1 j2 j3
    have kn2 : Kn s1 s2 := Kn.app mkRow_kn j3 (Nat.le_refl _)
    have w2 := kn2.wf w1
    have R2 : Rw s2 s1.nx [.slice q1 x.x.K.length c1, .slice q2 x.x.O.length c2, .slice q3 x.x.V.length c3, .bool x.x.was, .bool x.x.is] s1.nx := j1
    obtain ⟨gl, l0, l1, l2, l3, l4⟩ := loc5 R2
    refine run1 ?_
    refine Wo.app2 rfl rfl rfl rfl rfl rfl rfl rfl rfl (mkRow_wf w2) ((k3.keep w1 kn2 fun _ => id).keep w2 mkRow_kn fun _ => id) rfl (cells_at mkRow_sl.at rfl (by decide)) rfl (by intro v hv; simp only [List.mem_cons, List.not_mem_nil, or_false] at hv; rcases hv with rfl | rfl | rfl <;> rfl) rfl (by omega) (by omega) ?_
    intro q5 c5 γ5 s5 G5 K5 h5
    refine run1 ?_
    have htk : fl3 (l.take (i + 1)) = fl3 (l.take i) ++ [.slice q1 x.x.K.length c1, .slice q2 x.x.O.length c2, .slice q3 x.x.V.length c3] := by
      rw [(take_at hx).2.1]
      unfold fl3
      rw [List.flatMap_append, ← y1, ← y2, ← y3]; rfl
    have hlo := k2.le
    have h12 := kn2.le
    refine rnd.n (i + 1, s5, q5, c5, γ5) ⟨hi, ?_, ?_, fun _ => ?_⟩ (by show n - (i + 1) < n - i; omega) (.cons (by show some (Value.slice q5 (i * 3 + 3) c5) = some (.slice q5 ((i + 1) * 3) c5); rw [Nat.succ_mul]) (.cons rfl (.cons rfl (.cons rfl .nil)))) rfl rfl
    · exact Kp.new ((k2.trans kn2).trans mkRow_kn) (K5.mono fun c e => by rw [e.2]; exact k4 e.1) (Nat.le_refl _)
    · show Gw s5 q5 ((i + 1) * 3) c5 1 (fl3 (l.take (i + 1))) γ5
      rw [htk, Nat.succ_mul]; exact G5
    · show s.nx ≤ γ5
      rcases h5 with ⟨e, h⟩ | h
      · rw [h]; exact k4 e
      · rw [h]; exact Nat.le_trans (Nat.le_trans hlo h12) (Nat.le_succ _)
  · refine run1 ?_
    have hie : i = n := by omega
    subst hie
    rw [List.take_of_length_le (by omega)] at k3
    exact Lv.ret rfl ⟨qo, co, γo, rfl, k3, k4, k2⟩
end Go.Proofs.YtdffoghdbfddmaaGreatDoor
