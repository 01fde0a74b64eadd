import Derived.Test.YtdffoghdbfddmaaGreatDoorFjzz
import Derived.Test.YtdffoghdbfddmaaGreatDoorCpzz
import Derived.Test.YtdffoghdbfddmaaGreatDoorDazz
/-
  diff.Changes, diff.Back.
-/
namespace Go.Sy
open Go Go.Ev
/-- A change that was handed out. -/
abbrev Gc := Ce × Ce × Bool
def gcs (M : List Gc) : List Value := M.flatMap fun p => [p.1.v, p.2.1.v, .bool p.2.2]
def gfl (M : List Gc) : List Ce := M.flatMap fun p => [p.1, p.2.1]
abbrev Cv := List Nat × List Nat × Bool
def gxs (M : List Gc) : List Cv := M.map fun p => (p.1.A, p.2.1.A, p.2.2)
theorem gcs_app {M N : List Gc} : gcs (M ++ N) = gcs M ++ gcs N := List.flatMap_append
theorem gfl_app {M N : List Gc} : gfl (M ++ N) = gfl M ++ gfl N := List.flatMap_append
theorem gxs_app {M N : List Gc} : gxs (M ++ N) = gxs M ++ gxs N := List.map_append
/-- The change of a difference. -/
def chv (d : Dv) : Cv := (d.K, if d.is then d.V else [], !d.is)
/-- A difference that was handed out. -/
abbrev Gd := (Ce × Ce × Ce) × Bool × Bool
def Gd.dl (p : Gd) : Dl := ⟨p.1.1.v, p.1.2.1.v, p.1.2.2.v, ⟨p.1.1.A, p.1.2.1.A, p.1.2.2.A, p.2.1, p.2.2⟩⟩
def ddl (M : List Gd) : List Dl := M.map Gd.dl
def dfl (M : List Gd) : List Ce := M.flatMap fun p => [p.1.1, p.1.2.1, p.1.2.2]
theorem ddl_app {M N : List Gd} : ddl (M ++ N) = ddl M ++ ddl N := List.map_append
theorem dfl_app {M N : List Gd} : dfl (M ++ N) = dfl M ++ dfl N := List.flatMap_append
/-- The difference the other way round. -/
def bkv (d : Dv) : Dv := ⟨d.K, d.V, d.O, d.is, d.was⟩
theorem bkv_bkv (d : Dv) : bkv (bkv d) = d := rfl
theorem dfl_ok {s : St} {lo : Nat} {M : List Gd} (h : Fc s lo (dfl M)) : ∀ x ∈ ddl M, DlOk s x := fun x hx => by
  obtain ⟨p, hp, rfl⟩ := List.mem_map.1 hx
  have hm : ∀ y ∈ [p.1.1, p.1.2.1, p.1.2.2], y ∈ dfl M := fun y hy => List.mem_flatMap.2 ⟨p, hp, hy⟩
  exact ⟨(h.ok _ (hm p.1.1 (by simp))).bs, (h.ok _ (hm p.1.2.1 (by simp))).bs, (h.ok _ (hm p.1.2.2 (by simp))).bs⟩
/-- New lists, one behind the other. -/
theorem fc2 {s s1 s2 : St} {x y : Ce} (w1 : Wf s1) (h1 : CeOk s1 s.nx x) (k : Kn s1 s2) (h2 : CeOk s2 s1.nx y) (hle : s.nx ≤ s1.nx) : Fc s2 s.nx [x, y] :=
  ⟨fun z hz => by
    simp only [List.mem_cons, List.not_mem_nil, or_false] at hz
    rcases hz with rfl | rfl
    · exact ⟨h1.gw.keep w1 k fun _ => id, h1.lo, h1.sm⟩
    · exact ⟨h2.gw, fun hq => Nat.le_trans hle (h2.lo hq), h2.sm⟩,
   .cons (fun z hz a b => by rw [List.mem_singleton] at hz; subst hz; have := h1.gw.ltn w1 a; have := h2.lo b; omega) (.cons (by simp) .nil)⟩
end Go.Sy
namespace Go.Proofs.YtdffoghdbfddmaaGreatDoor
open Go Go.Ev Go.Sy
set_option maxRecDepth 100000
variable {s : St} {q r : Option Addr} {c d : Nat} {M N : List Nat}
theorem pchanges_ok {l : List Dl} {n : Nat} (hn : l.length = n) (w : Wf s) (ha : At s q (dcs l)) (hk : ∀ x ∈ l, DlOk s x) (hl : n * 80 ≤ 140737488351232) (hm : ∀ x ∈ l, x.x.K.length ≤ 140737488351232 ∧ x.x.O.length ≤ 140737488351232 ∧ x.x.V.length ≤ 140737488351232) :
    Cl B (.call 5 [.slice q n c]) s fun v s' => ∃ q' c' γ M, v = .slice q' n c' ∧ Rg 3 s.nx s' q' n c' γ (gcs M) (gfl M) ∧ gxs M = (dxs l).map chv ∧ Kn s s' := by
  refine Cl.enter Tryz.f5 fn5 rfl rfl rfl ?_
  refine run1 ?_
  refine W.loop (α := Nat × St × (Option Addr × Nat × Nat) × List Gc) (fun p => [(3, .slice p.2.2.1.1 p.1 p.2.2.1.2.1), (7, .slice q n c), (8, nI n), (9, nI p.1)]) (fun _ => []) (fun p => p.2.1)
    (fun p => p.1 ≤ n ∧ Kn s p.2.1 ∧ Rg 3 s.nx p.2.1 p.2.2.1.1 p.1 p.2.2.1.2.1 p.2.2.1.2.2 (gcs p.2.2.2) (gfl p.2.2.2) ∧ gxs p.2.2.2 = ((dxs l).map chv).take p.1)
    (fun p => n - p.1) (0, s, (none, 0, 0), []) ⟨Nat.zero_le _, .refl, Rg.nil, rfl⟩ (.cons rfl (.cons rfl (.cons rfl (.cons rfl .nil)))) rfl rfl (by show n - 0 < _; omega) ?_
  rintro ⟨i, s1, ⟨qo, co, γo⟩, M⟩ ⟨k1, k2, k3, k4⟩
  dsimp only at k1 k2 k3 k4 ⊢
  have w1 := k2.wf w
  by_cases hi : i < n
  · obtain ⟨x, hx⟩ := at_lt (l := l) (k := i) (by omega)
    obtain ⟨q1, c1, q2, c2, q3, c3, _, gq, ldx, _, b1, b2, b3⟩ := dl_ld (ha.kn w k2) (fun y hy => (hk y hy).kn w k2) hx
    obtain ⟨m1, m2, m3⟩ := hm x (List.mem_of_getElem? hx)
    refine run1 ?_
    refine Wo.st rfl rfl rfl rfl rfl rfl rfl (by intro v hv; simp only [List.mem_cons, List.not_mem_nil, or_false] at hv; rcases hv with rfl | rfl | rfl | rfl | rfl <;> rfl) mkRow_rw (by decide) ?_
    intro s2 j1 j2 j3
    have kn2 : Kn s1 s2 := Kn.app mkRow_kn j3 (Nat.le_refl _)
    have w2 := kn2.wf w1
    have R2 : Rw s2 s1.nx [.slice q1 x.x.K.length c1, .slice q2 x.x.O.length c2, .slice q3 x.x.V.length c3, .bool x.x.was, .bool x.x.is] s1.nx := j1
    obtain ⟨gl, l0, l1, l2, l3, l4⟩ := loc5 R2
    refine run1 ?_
    refine W.dr [(0, .none, 0), (1, .reads, 1), (2, .acts, 3), (3, .none, 0), (4, .reads, 8), (5, .none, 24), (6, .none, 63), (7, .makes, 0), (8, .acts, 255)] (by kernel_rfl) rfl ?_
    refine run1 ?_
    refine Wd.call rfl (Xc.call ok14 rfl) rfl ((clone_ce w2 (b1.kn w1 kn2) (by omega)).mono ?_)
    rintro v1 s3 ⟨y, rfl, ey, oy, kn3⟩
    refine ⟨kn3.le, ?_⟩
    have w3 := kn3.wf w2
    have R3 := R2.kp w2 kn3 id
    obtain ⟨_, l0', l1', l2', l3', l4'⟩ := loc5 R3
    refine run1 ?_
    refine Wd.val rfl (Xv.build (cs := [y.v, .slice none 0 0, .bool (!x.x.is)]) rfl (by unfold Ce.v; generalize (!x.x.is) = g; cases g <;> rfl)) rfl (Nat.le_refl _) ?_
    refine run1 ?_
    refine Wd.st rfl rfl rfl rfl rfl rfl rfl (by intro v hv; simp only [List.mem_cons, List.not_mem_nil, or_false] at hv; rcases hv with rfl | rfl | rfl <;> rfl) mkRow_rw (by decide) ?_
    intro s4 a1 a2 a3
    have kn4 : Kn s3 s4 := Kn.app mkRow_kn a3 (Nat.le_refl _)
    have w4 := kn4.wf w3
    have R4 : Rw s4 s3.nx [y.v, .slice none 0 0, .bool (!x.x.is)] s3.nx := a1
    have nx4 : s4.nx = s3.nx + 1 := a2
    obtain ⟨_, _, _, n2, _, n4⟩ := loc5 (R3.kp w3 kn4 id)
    have k24 : Kn s2 s4 := kn3.trans kn4
    have o4 : CeOk s4 s2.nx y := ⟨oy.gw.keep w3 kn4 fun _ => id, oy.lo, oy.sm⟩
    have gc : good (some (⟨s3.nx, 0, none⟩ : Addr)) := ⟨_, _, rfl⟩
    have hxi : (dxs l)[i]? = some x.x := by unfold dxs; rw [List.getElem?_map, hx]; rfl
    have htk : ((dxs l).map chv).take (i + 1) = ((dxs l).map chv).take i ++ [chv x.x] := (take_at (by rw [List.getElem?_map, hxi]; rfl)).2.1
    cases hb : x.x.is with
    | false =>
      rw [hb] at R4 n4
      have ldc := loc3 R4
      refine run1 ?_
      refine Wo.app2 rfl rfl rfl rfl rfl rfl rfl rfl rfl (mkRow_wf w4) ((k3.gw.keep w1 (kn2.trans k24) fun _ => id).keep w4 mkRow_kn fun _ => id) rfl (cells_at mkRow_sl.at rfl (by decide)) rfl (by intro v hv; simp only [List.mem_cons, List.not_mem_nil, or_false] at hv; rcases hv with rfl | rfl | rfl <;> rfl) rfl (by omega) (by omega) ?_
      intro q5 c5 γ5 s5 G5 K5 h5
      refine run1 ?_
      have k14 : Kn s1 s4 := kn2.trans k24
      have hlo := k2.le
      have o1 : CeOk s4 s1.nx y := ⟨o4.gw, fun h => Nat.le_trans kn2.le (o4.lo h), o4.sm⟩
      have hF : Fc s4 s1.nx [y, ⟨none, 0, 0, []⟩] := fc2 w4 o1 .refl ⟨Gw.nil, fun h => absurd rfl h, by show (0 : Nat) < 2 ^ 47; decide⟩ k14.le
      refine rnd.n (i + 1, s5, (q5, c5, γ5), M ++ [(y, ⟨none, 0, 0, []⟩, true)]) ⟨hi, k3.keep k2 k14 mkRow_kn K5, ?_, ?_⟩ (by show n - (i + 1) < n - i; omega) (.cons rfl (.cons rfl (.cons rfl (.cons rfl .nil)))) rfl rfl
      · rw [gcs_app, gfl_app]
        exact k3.step w1 hlo k14 hF mkRow_kn (Nat.le_succ _) (fun z hz h => hF.lt w4 hz h) G5 K5 h5
      · rw [gxs_app, k4, htk]
        unfold chv
        rw [hb, ← ey]; rfl
    | true =>
      rw [hb] at R4 n4
      refine run1 ?_
      refine Wo.call rfl (Xc.call ok14 rfl) rfl ((clone_ce w4 ((b3.kn w1 kn2).kn w2 k24) (by omega)).mono ?_)
      rintro v2 s5 ⟨z, rfl, ez, oz, kn5⟩
      have w5 := kn5.wf w4
      refine run1 ?_
      refine Wo.st rfl rfl rfl rfl rfl rfl rfl (by intro v hv; simp only [List.mem_cons, List.not_mem_nil, or_false] at hv; rcases hv with rfl; rfl) (R4.kp w4 kn5 id) (by show 2 ≤ 3; decide) ?_
      intro s6 d1 d2 d3
      have R6 : Rw s6 s3.nx [y.v, z.v, .bool false] s3.nx := d1
      have ldc := loc3 R6
      have k35 : Kn s3 s5 := kn4.trans kn5
      have k36 : Kn s3 s6 := Kn.app k35 d3 (Nat.le_refl _)
      have w6 := k36.wf w3
      have hn5 := kn5.le
      refine run1 ?_
      have k16 : Kn s1 s6 := kn2.trans (kn3.trans k36)
      have hlo := k2.le
      refine Wo.app2 rfl rfl rfl rfl rfl rfl rfl rfl rfl (mkRow_wf w6) ((k3.gw.keep w1 k16 fun _ => id).keep w6 mkRow_kn fun _ => id) rfl (cells_at mkRow_sl.at rfl (by decide)) rfl (by intro v hv; simp only [List.mem_cons, List.not_mem_nil, or_false] at hv; rcases hv with rfl | rfl | rfl <;> rfl) rfl (by omega) (by omega) ?_
      intro q5 c5 γ5 s7 G5 K5 h5
      refine run1 ?_
      have oz6 : CeOk s6 s3.nx z := ⟨oz.gw.keep w5 d3 fun h e => by have := oz.lo h; omega, fun h => by have := oz.lo h; omega, oz.sm⟩
      have hF : Fc s6 s1.nx [y, z] := fc2 w3 ⟨oy.gw, fun h => Nat.le_trans kn2.le (oy.lo h), oy.sm⟩ k36 oz6 (Nat.le_trans kn2.le kn3.le)
      refine rnd.n (i + 1, s7, (q5, c5, γ5), M ++ [(y, z, false)]) ⟨hi, k3.keep k2 k16 mkRow_kn K5, ?_, ?_⟩ (by show n - (i + 1) < n - i; omega) (.cons rfl (.cons rfl (.cons rfl (.cons rfl .nil)))) rfl rfl
      · rw [gcs_app, gfl_app]
        exact k3.step w1 hlo k16 hF mkRow_kn (Nat.le_succ _) (fun u hu h => hF.lt w6 hu h) G5 K5 h5
      · rw [gxs_app, k4, htk]
        unfold chv
        rw [hb, ← ey, ← ez]; rfl
  · refine run1 ?_
    have hie : i = n := by omega
    subst hie
    rw [List.take_of_length_le (by rw [List.length_map]; unfold dxs; rw [List.length_map]; omega)] at k4
    exact Lv.ret rfl ⟨qo, co, γo, M, rfl, k3, k4, k2⟩
end Go.Proofs.YtdffoghdbfddmaaGreatDoor
/-
  diff.Back.
-/
namespace Go.Sy
open Go Go.Ev
theorem fc3 {s s1 s2 s3 : St} {x y z : Ce} (w1 : Wf s1) (w2 : Wf s2) (h1 : CeOk s1 s.nx x) (k : Kn s1 s2) (h2 : CeOk s2 s1.nx y) (k' : Kn s2 s3) (h3 : CeOk s3 s2.nx z) (hle : s.nx ≤ s1.nx) : Fc s3 s.nx [x, y, z] := by
  have F := fc2 w1 h1 k h2 hle
  have kle := k.le
  exact (F.kp w2 k' fun _ _ _ => id).app (m := [z]) (lo' := s2.nx) ⟨fun u hu => by rw [List.mem_singleton] at hu; rw [hu]; exact h3, List.pairwise_singleton ..⟩ (by omega) fun u hu v hv a b => by
    rw [List.mem_singleton] at hv
    subst hv
    have := F.lt w2 hu a
    have := h3.lo b
    omega
end Go.Sy
namespace Go.Proofs.YtdffoghdbfddmaaGreatDoor
open Go Go.Ev Go.Sy
set_option maxRecDepth 100000
variable {s : St} {q r : Option Addr} {c d : Nat} {M N : List Nat}
theorem pback_ok {l : List Dl} {n : Nat} (hn : l.length = n) (w : Wf s) (ha : At s q (dcs l)) (hk : ∀ x ∈ l, DlOk s x) (hl : n * 80 ≤ 140737488351232) (hm : ∀ x ∈ l, x.x.K.length ≤ 140737488351232 ∧ x.x.O.length ≤ 140737488351232 ∧ x.x.V.length ≤ 140737488351232) :
    Cl B (.call 6 [.slice q n c]) s fun v s' => ∃ q' c' γ M, v = .slice q' n c' ∧ Rg 5 s.nx s' q' n c' γ (dcs (ddl M)) (dfl M) ∧ dxs (ddl M) = (dxs l).map bkv ∧ Kn s s' := by
  refine Cl.enter Tryz.f6 fn6 rfl rfl rfl ?_
  refine run1 ?_
  refine W.loop (α := Nat × St × (Option Addr × Nat × Nat) × List Gd) (fun p => [(3, .slice p.2.2.1.1 p.1 p.2.2.1.2.1), (6, .slice q n c), (7, nI n), (8, nI p.1)]) (fun _ => []) (fun p => p.2.1)
    (fun p => p.1 ≤ n ∧ Kn s p.2.1 ∧ Rg 5 s.nx p.2.1 p.2.2.1.1 p.1 p.2.2.1.2.1 p.2.2.1.2.2 (dcs (ddl p.2.2.2)) (dfl p.2.2.2) ∧ dxs (ddl p.2.2.2) = ((dxs l).map bkv).take p.1)
    (fun p => n - p.1) (0, s, (none, 0, 0), []) ⟨Nat.zero_le _, .refl, Rg.nil, rfl⟩ (.cons rfl (.cons rfl (.cons rfl (.cons rfl .nil)))) rfl rfl (by show n - 0 < _; omega) ?_
  rintro ⟨i, s1, ⟨qo, co, γo⟩, M⟩ ⟨k1, k2, k3, k4⟩
  dsimp only at k1 k2 k3 k4 ⊢
  have w1 := k2.wf w
  by_cases hi : i < n
  · obtain ⟨x, hx⟩ := at_lt (l := l) (k := i) (by omega)
    obtain ⟨q1, c1, q2, c2, q3, c3, _, gq, ldx, _, b1, b2, b3⟩ := dl_ld (ha.kn w k2) (fun y hy => (hk y hy).kn w k2) hx
    obtain ⟨m1, m2, m3⟩ := hm x (List.mem_of_getElem? hx)
    refine run1 ?_
    refine Wo.st rfl rfl rfl rfl rfl rfl rfl (by intro v hv; simp only [List.mem_cons, List.not_mem_nil, or_false] at hv; rcases hv with rfl | rfl | rfl | rfl | rfl <;> rfl) mkRow_rw (by decide) ?_
    intro s2 j1 j2 j3
    have kn2 : Kn s1 s2 := Kn.app mkRow_kn j3 (Nat.le_refl _)
    have w2 := kn2.wf w1
    have R2 : Rw s2 s1.nx [.slice q1 x.x.K.length c1, .slice q2 x.x.O.length c2, .slice q3 x.x.V.length c3, .bool x.x.was, .bool x.x.is] s1.nx := j1
    obtain ⟨gl, l0, l1, l2, l3, l4⟩ := loc5 R2
    refine run1 ?_
    refine W.dr [(1, .none, 0), (2, .reads, 2), (3, .acts, 6), (4, .none, 0), (5, .reads, 16), (6, .acts, 62), (7, .none, 0), (8, .reads, 128), (9, .acts, 510), (0, .none, 0), (10, .none, 0), (11, .reads, 1024), (12, .none, 0), (13, .reads, 4096), (14, .none, 16382), (15, .makes, 32766), (16, .acts, 65535), (17, .none, 131071)] (by kernel_rfl) rfl ?_
    refine run1 ?_
    refine Wd.call rfl (Xc.call ok14 rfl) rfl ((clone_ce w2 (b1.kn w1 kn2) (by omega)).mono ?_)
    rintro v1 s3 ⟨y, rfl, ey, oy, kn3⟩
    refine ⟨kn3.le, ?_⟩
    have w3 := kn3.wf w2
    have R3 := R2.kp w2 kn3 id
    obtain ⟨_, l0', l1', l2', l3', l4'⟩ := loc5 R3
    refine run1 ?_
    refine Wd.call rfl (Xc.call ok14 rfl) rfl ((clone_ce w3 ((b3.kn w1 kn2).kn w2 kn3) (by omega)).mono ?_)
    rintro v2 s4 ⟨z, rfl, ez, oz, kn4⟩
    refine ⟨kn4.le, ?_⟩
    have w4 := kn4.wf w3
    have R4 := R3.kp w3 kn4 id
    obtain ⟨_, l0'', l1'', l2'', l3'', l4''⟩ := loc5 R4
    refine run1 ?_
    refine Wd.call rfl (Xc.call ok14 rfl) rfl ((clone_ce w4 (((b2.kn w1 kn2).kn w2 kn3).kn w3 kn4) (by omega)).mono ?_)
    rintro v3 s5 ⟨u, rfl, eu, ou, kn5⟩
    refine ⟨kn5.le, ?_⟩
    have w5 := kn5.wf w4
    have R5 := R4.kp w4 kn5 id
    obtain ⟨_, l05, l15, l25, l35, l45⟩ := loc5 R5
    refine run1 ?_
    refine Wd.read rfl (Xv.ld rfl rfl rfl l45) rfl eqV_bool ⟨Xv.ld rfl rfl rfl l45, Xv.ld rfl rfl rfl l4'', Xv.ld rfl rfl rfl l4', Xv.ld rfl rfl rfl l4, trivial⟩ (run1 ?_)
    refine Wd.read rfl (Xv.ld rfl rfl rfl l35) rfl eqV_bool ⟨Xv.ld rfl rfl rfl l35, Xv.ld rfl rfl rfl l3'', Xv.ld rfl rfl rfl l3', Xv.ld rfl rfl rfl l3, trivial⟩ (run1 ?_)
    refine Wd.val rfl (Xv.build (cs := [y.v, z.v, u.v, .bool x.x.is, .bool x.x.was]) rfl (by unfold Ce.v; generalize x.x.is = g; generalize x.x.was = g'; cases g <;> cases g' <;> rfl)) rfl (Nat.le_refl _) ?_
    refine run1 ?_
    have k35 := kn4.trans kn5
    have k15 : Kn s1 s5 := kn2.trans (kn3.trans k35)
    have hlo := k2.le
    have h12 := kn2.le
    have hF : Fc s5 s1.nx [y, z, u] := fc3 (s := s1) w3 w4 ⟨oy.gw, fun h => Nat.le_trans h12 (oy.lo h), oy.sm⟩ kn4 oz kn5 ou (Nat.le_trans h12 kn3.le)
    refine Wd.app2 rfl rfl rfl rfl rfl rfl rfl rfl rfl (mkRow_wf w5) ((k3.gw.keep w1 k15 fun _ => id).keep w5 mkRow_kn fun _ => id) rfl (cells_at mkRow_sl.at rfl (by decide)) rfl (by intro v hv; simp only [List.mem_cons, List.not_mem_nil, or_false] at hv; rcases hv with rfl | rfl | rfl | rfl | rfl <;> rfl) rfl (by omega) (by omega) ?_
    intro q5 c5 γ5 s7 G5 K5 h5
    refine run1 ?_
    have hxi : (dxs l)[i]? = some x.x := by unfold dxs; rw [List.getElem?_map, hx]; rfl
    have htk : ((dxs l).map bkv).take (i + 1) = ((dxs l).map bkv).take i ++ [bkv x.x] := (take_at (by rw [List.getElem?_map, hxi]; rfl)).2.1
    refine rnd.n (i + 1, s7, (q5, c5, γ5), M ++ [((y, z, u), x.x.is, x.x.was)]) ⟨hi, k3.keep k2 k15 mkRow_kn K5, ?_, ?_⟩ (by show n - (i + 1) < n - i; omega) (.cons rfl (.cons rfl (.cons rfl (.cons rfl .nil)))) rfl rfl
    · rw [ddl_app, dcs_app, dfl_app]
      exact k3.step w1 hlo k15 hF mkRow_kn (Nat.le_succ _) (fun z hz h => hF.lt w5 hz h) G5 K5 h5
    · rw [ddl_app, dxs_app, k4, htk]
      unfold bkv
      rw [← ey, ← ez, ← eu]; rfl
  · refine run1 ?_
    have hie : i = n := by omega
    subst hie
    rw [List.take_of_length_le (by rw [List.length_map]; unfold dxs; rw [List.length_map]; omega)] at k4
    exact Lv.ret rfl ⟨qo, co, γo, M, rfl, k3, k4, k2⟩
end Go.Proofs.YtdffoghdbfddmaaGreatDoor
/-
  cairnlaw14.Apart.
-/
namespace Go.Proofs.YtdffoghdbfddmaaGreatDoor
open Go Go.Ev Go.Sy
set_option maxRecDepth 100000
variable {s s0 : St} {q : Option Addr} {c : Nat}
theorem apart_ce {l : List Ce} {lo γ n : Nat} (w : Wf s) (hn : l.length = n) (G : Gw s q n c 1 (l.map Ce.v) γ) (F : Fc s lo l) (hne : ∀ x ∈ l, x.q ≠ none → q ≠ none → x.γ ≠ γ) (hl : n < 9000000000000) (h0 : 0 < s.nx) :
    Cl B (.call 10 [.slice q n c]) s fun v s' => v = .bool true ∧ Kp (fun c => (∃ x ∈ l, x.q ≠ none ∧ c = x.γ) ∨ s.nx ≤ c) s s' := by
  subst hn
  have get : ∀ i, i < l.length → ∃ x, l[i]? = some x ∧ x ∈ l ∧ l.getD i ⟨none, 0, 0, []⟩ = x := fun i hi => ⟨l[i], List.getElem?_eq_getElem hi, List.getElem_mem hi, by rw [List.getD_eq_getElem?_getD, List.getElem?_eq_getElem hi]; rfl⟩
  by_cases hq : q = none
  · have hl0 : l = [] := by
      rcases G.at' with ⟨_, h, _⟩ | ⟨b, g, h, _⟩
      · exact List.eq_nil_of_length_eq_zero h
      · rw [hq] at h; cases h
    subst hl0 hq
    refine (apart_ok (cs := []) (γl := 0) (Q := fun _ => none) (C := fun _ => 0) (γ := fun _ => 0) (L := fun _ => []) w (.inl ⟨rfl, .inl rfl⟩) rfl (by decide) (fun i hi => by cases hi) (fun i hi => by cases hi) (fun i hi => by cases hi) (fun i j hi => by cases hi) (fun i hi => by cases hi) ⟨h0, fun i hi => by cases hi⟩).mono ?_
    rintro v s' ⟨rfl, k⟩
    refine ⟨rfl, k.mono fun c h => ?_⟩
    rcases h with ⟨t, ht, _⟩ | h
    · cases ht
    · exact .inr h
  · refine (apart_ok (cs := l.map Ce.v) (γl := γ) (Q := fun i => (l.getD i ⟨none, 0, 0, []⟩).q) (C := fun i => (l.getD i ⟨none, 0, 0, []⟩).c) (γ := fun i => (l.getD i ⟨none, 0, 0, []⟩).γ) (L := fun i => (l.getD i ⟨none, 0, 0, []⟩).A) w G.sl (by simp) (by omega) (fun i hi => ?_) (fun i hi => ?_) (fun i hi => ?_) (fun i j hi hj hij h2 h3 => ?_) (fun i hi h2 => ?_) ⟨G.ltn w hq, fun i hi h2 => ?_⟩).mono ?_
    · obtain ⟨x, h2, _, h3⟩ := get i hi
      rw [List.getElem?_map, h2, h3]; rfl
    · obtain ⟨x, _, h2, h3⟩ := get i hi
      rw [h3]; exact (F.ok x h2).gw
    · obtain ⟨x, _, h2, h3⟩ := get i hi
      rw [h3]; exact (F.ok x h2).sm
    · obtain ⟨x, a1, a2, a3⟩ := get i hi
      obtain ⟨y, b1, b2, b3⟩ := get j hj
      rw [a3] at h2 ⊢
      rw [b3] at h3 ⊢
      have ex : l[i] = x := by rw [List.getElem?_eq_getElem hi] at a1; injection a1
      have ey : l[j] = y := by rw [List.getElem?_eq_getElem hj] at b1; injection b1
      rcases Nat.lt_or_gt_of_ne hij with h | h
      · have := List.pairwise_iff_getElem.1 F.pw i j hi hj h; rw [ex, ey] at this; exact this h2 h3
      · have := List.pairwise_iff_getElem.1 F.pw j i hj hi h; rw [ex, ey] at this; exact (this h3 h2).symm
    · obtain ⟨x, a1, a2, a3⟩ := get i hi
      rw [a3] at h2 ⊢
      exact hne x a2 h2 hq
    · obtain ⟨x, a1, a2, a3⟩ := get i hi
      rw [a3] at h2 ⊢
      exact F.lt w a2 h2
    · rintro v s' ⟨rfl, k⟩
      refine ⟨rfl, k.mono fun c h => ?_⟩
      rcases h with ⟨t, ht, h2, rfl⟩ | h
      · obtain ⟨x, a1, a2, a3⟩ := get t ht
        rw [a3] at h2 ⊢
        exact .inl ⟨x, a2, h2, rfl⟩
      · exact .inr h
theorem gw_put {s s' : St} {q : Option Addr} {n c size b γ : Nat} {cs cs' : List Value} (h : Gw s q n c size cs γ) (hq : q = some ⟨b, 0, none⟩) (hr : Rw s' b cs' γ) (hl : cs'.length = cs.length) : Gw s' q n c size cs' γ := by
  obtain ⟨g, h1, h2⟩ := hr
  refine ⟨hl.trans h.len, .inr ⟨b, g, hq, h1, h2, ?_⟩⟩
  rcases h.at' with ⟨e, _⟩ | ⟨b', g', _, _, _, e⟩
  · rw [hq] at e; cases e
  · exact e
theorem ecs_get : ∀ {M : EC} {i : Nat} {p : Ce × Ce}, M[i]? = some p → (ecs M)[i * 2]? = some p.1.v ∧ (ecs M)[i * 2 + 1]? = some p.2.v
  | [], i, p, h => by simp at h
  | x :: M, 0, p, h => by cases h; exact ⟨rfl, rfl⟩
  | x :: M, i + 1, p, h => by
    have := ecs_get (M := M) (i := i) h
    rw [show (i + 1) * 2 = i * 2 + 1 + 1 by omega]
    exact this
theorem ecs_take {M : EC} {i : Nat} {p : Ce × Ce} (h : M[i]? = some p) : (ecs M).take (i * 2 + 2) = (ecs M).take (i * 2) ++ [p.1.v, p.2.v] := by
  obtain ⟨h1, h2⟩ := ecs_get h
  rw [show i * 2 + 2 = i * 2 + 1 + 1 from rfl, List.take_add_one, h2, List.take_add_one, h1, List.append_assoc]; rfl
end Go.Proofs.YtdffoghdbfddmaaGreatDoor
