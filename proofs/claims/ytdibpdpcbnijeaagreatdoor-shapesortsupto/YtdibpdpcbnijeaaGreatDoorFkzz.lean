import Derived.Test.YtdibpdpcbnijeaaGreatDoorCpzz
import Derived.Test.YtdibpdpcbnijeaaGreatDoorCkzz
import Derived.Test.YtdibpdpcbnijeaaGreatDoorCszz
import Derived.Test.YtdibpdpcbnijeaaGreatDoorKmzz
import Derived.Test.YtdibpdpcbnijeaaGreatDoorCtzz
import Derived.Test.YtdibpdpcbnijeaaGreatDoorWslzz
/-
  cairnlaw14.Apart.
-/
namespace Go.Proofs.YtdibpdpcbnijeaaGreatDoor
open Go Go.Ev Go.Sy
set_option maxRecDepth 100000
variable {s s0 : St} {q : Option Addr} {c : Nat}
theorem apart_ce {l : List Ce} {lo γ n : Nat} (w : Wf s) (hn : l.length = n) (G : Gw s q n c 1 (l.map Ce.v) γ) (F : Fc s lo l) (hne : ∀ x ∈ l, x.q ≠ none → q ≠ none → x.γ ≠ γ) (hl : n < 2 ^ 40) (h0 : 0 < s.nx) :
    Cl B (.call 22 [.slice q n c]) s fun v s' => v = .bool true ∧ Kp (fun c => (∃ x ∈ l, x.q ≠ none ∧ c = x.γ) ∨ s.nx ≤ c) s s' := by
  subst hn
  have get : ∀ i, i < l.length → ∃ x, l[i]? = some x ∧ x ∈ l ∧ l.getD i ⟨none, 0, 0, []⟩ = x := fun i hi => ⟨l[i], List.getElem?_eq_getElem hi, List.getElem_mem hi, by rw [List.getD_eq_getElem?_getD, List.getElem?_eq_getElem hi]; rfl⟩
  by_cases hq : q = none
  · have hl0 : l = [] := by
      rcases G.at' with ⟨_, h, _⟩ | ⟨b, g, h, _⟩
      · exact List.eq_nil_of_length_eq_zero h
      · rw [hq] at h; cases h
    subst hl0 hq
    refine (apart_ok (cs := []) (γl := 0) (Q := fun _ => none) (C := fun _ => 0) (γ := fun _ => 0) (L := fun _ => []) w (.inl ⟨rfl, .inl rfl⟩) rfl (by decide) (fun i hi => by cases hi) (fun i hi => by cases hi) (fun i hi => by cases hi) (fun i j hi => by cases hi) (fun i hi => by cases hi) ⟨h0, fun i hi => by cases hi⟩).mono ?_
    rintro v s' ⟨rfl, k⟩
    refine ⟨rfl, k.mono fun c h => ?_⟩
    rcases h with ⟨t, ht, _⟩ | h
    · cases ht
    · exact .inr h
  · refine (apart_ok (cs := l.map Ce.v) (γl := γ) (Q := fun i => (l.getD i ⟨none, 0, 0, []⟩).q) (C := fun i => (l.getD i ⟨none, 0, 0, []⟩).c) (γ := fun i => (l.getD i ⟨none, 0, 0, []⟩).γ) (L := fun i => (l.getD i ⟨none, 0, 0, []⟩).A) w G.sl (by simp) (by omega) (fun i hi => ?_) (fun i hi => ?_) (fun i hi => ?_) (fun i j hi hj hij h2 h3 => ?_) (fun i hi h2 => ?_) ⟨G.ltn w hq, fun i hi h2 => ?_⟩).mono ?_
    · obtain ⟨x, h2, _, h3⟩ := get i hi
      rw [List.getElem?_map, h2, h3]; rfl
    · obtain ⟨x, _, h2, h3⟩ := get i hi
      rw [h3]; exact (F.ok x h2).gw
    · obtain ⟨x, _, h2, h3⟩ := get i hi
      rw [h3]; exact (F.ok x h2).sm
    · obtain ⟨x, a1, a2, a3⟩ := get i hi
      obtain ⟨y, b1, b2, b3⟩ := get j hj
      rw [a3] at h2 ⊢
      rw [b3] at h3 ⊢
      have ex : l[i] = x := by rw [List.getElem?_eq_getElem hi] at a1; injection a1
      have ey : l[j] = y := by rw [List.getElem?_eq_getElem hj] at b1; injection b1
      rcases Nat.lt_or_gt_of_ne hij with h | h
      · have := List.pairwise_iff_getElem.1 F.pw i j hi hj h; rw [ex, ey] at this; exact this h2 h3
      · have := List.pairwise_iff_getElem.1 F.pw j i hj hi h; rw [ex, ey] at this; exact (this h3 h2).symm
    · obtain ⟨x, a1, a2, a3⟩ := get i hi
      rw [a3] at h2 ⊢
      exact hne x a2 h2 hq
    · obtain ⟨x, a1, a2, a3⟩ := get i hi
      rw [a3] at h2 ⊢
      exact F.lt w a2 h2
    · rintro v s' ⟨rfl, k⟩
      refine ⟨rfl, k.mono fun c h => ?_⟩
      rcases h with ⟨t, ht, h2, rfl⟩ | h
      · obtain ⟨x, a1, a2, a3⟩ := get t ht
        rw [a3] at h2 ⊢
        exact .inl ⟨x, a2, h2, rfl⟩
      · exact .inr h
theorem gw_put {s s' : St} {q : Option Addr} {n c size b γ : Nat} {cs cs' : List Value} (h : Gw s q n c size cs γ) (hq : q = some ⟨b, 0, none⟩) (hr : Rw s' b cs' γ) (hl : cs'.length = cs.length) : Gw s' q n c size cs' γ := by
  obtain ⟨g, h1, h2⟩ := hr
  refine ⟨hl.trans h.len, .inr ⟨b, g, hq, h1, h2, ?_⟩⟩
  rcases h.at' with ⟨e, _⟩ | ⟨b', g', _, _, _, e⟩
  · rw [hq] at e; cases e
  · exact e
theorem ecs_get : ∀ {M : EC} {i : Nat} {p : Ce × Ce}, M[i]? = some p → (ecs M)[i * 2]? = some p.1.v ∧ (ecs M)[i * 2 + 1]? = some p.2.v
  | [], i, p, h => by simp at h
  | x :: M, 0, p, h => by cases h; exact ⟨rfl, rfl⟩
  | x :: M, i + 1, p, h => by
    have := ecs_get (M := M) (i := i) h
    rw [show (i + 1) * 2 = i * 2 + 1 + 1 by omega]
    exact this
theorem ecs_take {M : EC} {i : Nat} {p : Ce × Ce} (h : M[i]? = some p) : (ecs M).take (i * 2 + 2) = (ecs M).take (i * 2) ++ [p.1.v, p.2.v] := by
  obtain ⟨h1, h2⟩ := ecs_get h
  rw [show i * 2 + 2 = i * 2 + 1 + 1 from rfl, List.take_add_one, h2, List.take_add_one, h1, List.append_assoc]; rfl
set_option maxHeartbeats 800000 in
theorem lapart_ok {M : EC} {lo γ : Nat} (w : Wf s) (G : Gw s q M.length c 2 (ecs M) γ) (F : Fc s lo (efl M)) (hne : ∀ x ∈ efl M, x.q ≠ none → q ≠ none → x.γ ≠ γ) (hl : M.length < 2 ^ 38) :
    Cl B (.call 10 [.slice q M.length c]) s fun v s' => v = .bool true ∧ Kp (fun c => (∃ x ∈ efl M, x.q ≠ none ∧ c = x.γ) ∨ (q ≠ none ∧ c = γ) ∨ s.nx ≤ c) s s' := by
  refine Cl.enter Tryz.f10 fn10 rfl rfl rfl ?_
  refine run1 ?_
  refine W.loop (α := Nat × Nat × St × Option Addr × Nat × Nat) (fun p => [(0, .slice q M.length c), (3, .slice p.2.2.2.1 p.2.1 p.2.2.2.2.1), (4, nI p.1)]) (fun _ => []) (fun p => p.2.2.1)
    (fun p => p.1 ≤ M.length ∧ p.2.1 = p.1 * 2 ∧ Kn s p.2.2.1 ∧ Gw p.2.2.1 p.2.2.2.1 p.2.1 p.2.2.2.2.1 1 ((ecs M).take (p.1 * 2)) p.2.2.2.2.2 ∧ (p.2.2.2.1 ≠ none → s.nx ≤ p.2.2.2.2.2))
    (fun p => M.length - p.1) (0, 0, s, none, 0, 0) ⟨Nat.zero_le _, rfl, .refl, Gw.nil, fun h => absurd rfl h⟩ (.cons rfl (.cons rfl (.cons rfl .nil))) rfl rfl (by show M.length - 0 < _; omega) ?_
  rintro ⟨i, n, s1, qa, ca, γa⟩ ⟨k1, k2, k3, k4, k5⟩
  dsimp only at k1 k2 k3 k4 k5 ⊢
  have w1 := k3.wf w
  by_cases hi : i < M.length
  · obtain ⟨p, hp⟩ := at_lt hi
    obtain ⟨e1, e2⟩ := ecs_get hp
    have hel := ecs_length M
    have A1 : At s1 q (ecs M) := G.sl.at.kn w k3
    have gq : good q := At.good A1 (i := i * 2) (by omega)
    have l1 : ldq s1 (qadd (qadd q (i * 2)) 0) = some (.slice p.1.q p.1.A.length p.1.c) := by
      rw [qadd_qadd, At.ld A1 (i := i * 2 + 0) (by omega), ← List.getElem?_eq_getElem]; exact e1
    have l2 : ldq s1 (qadd (qadd q (i * 2)) 1) = some (.slice p.2.q p.2.A.length p.2.c) := by
      rw [qadd_qadd, At.ld A1 (i := i * 2 + 1) (by omega), ← List.getElem?_eq_getElem]; exact e2
    refine run1 ?_
    refine W.dr [(0, .none, 0), (1, .none, 0), (2, .none, 0), (3, .none, 6), (4, .none, 14), (5, .reads, 30), (6, .none, 0), (7, .none, 0), (8, .none, 192), (9, .none, 448), (10, .reads, 960), (11, .makes, 2046), (12, .acts, 4095), (13, .none, 8191)] (by kernel_rfl) rfl ?_
    refine run1 ?_
    have w2 : Wf (mkRow s1 [.slice p.1.q p.1.A.length p.1.c, .slice p.2.q p.2.A.length p.2.c]) := mkRow_wf w1
    refine Wd.app2 rfl rfl rfl rfl rfl rfl rfl rfl rfl w2 (k4.keep w1 mkRow_kn fun _ => id) rfl (cells_at mkRow_sl.at rfl (by decide)) rfl (by intro v hv; simp only [List.mem_cons, List.not_mem_nil, or_false] at hv; rcases hv with rfl | rfl <;> rfl) rfl (by omega) (by omega) ?_
    intro q' c' γ' s3 G3 K3 hγ3
    refine run1 ?_
    have nx := k3.le
    have nxm : (mkRow s1 [.slice p.1.q p.1.A.length p.1.c, .slice p.2.q p.2.A.length p.2.c]).nx = s1.nx + 1 := rfl
    refine rnd.n (i + 1, n + 2, s3, q', c', γ') ⟨hi, by show n + 2 = (i + 1) * 2; omega, ?_, ?_, fun _ => ?_⟩ (by show M.length - (i + 1) < M.length - i; omega) (.cons rfl (.cons rfl (.cons rfl .nil))) rfl rfl
    · exact Kp.new (N := s.nx) (k3.trans mkRow_kn) (K3.mono fun c h => by rw [h.2]; exact k5 h.1) (Nat.le_refl _)
    · show Gw s3 q' (n + 2) c' 1 ((ecs M).take ((i + 1) * 2)) γ'
      rw [show (i + 1) * 2 = i * 2 + 2 by omega, ecs_take hp]; exact G3
    · show s.nx ≤ γ'
      rcases hγ3 with ⟨h, h'⟩ | h
      · rw [h']; exact k5 h
      · omega
  · refine run1 ?_
    have hie : i = M.length := by omega
    subst hie
    have hel := ecs_length M
    rw [List.take_of_length_le (by omega), ecs_map] at k4
    have hfl : (efl M).length = n := by rw [← List.length_map (f := Ce.v), ← ecs_map]; omega
    have F1 : Fc s1 lo (efl M) := F.kp w k3 fun _ _ _ => id
    have nx := k3.le
    refine Wo.call rfl (Xc.call ok22 rfl) rfl ((apart_ce w1 hfl k4 F1 (fun x hx h2 h3 => by have := F.lt w hx h2; have := k5 h3; omega) (by omega) w1.one).mono ?_)
    rintro v s2 ⟨rfl, K2⟩
    have K02 : Kp (fun c => (∃ x ∈ efl M, x.q ≠ none ∧ c = x.γ) ∨ (q ≠ none ∧ c = γ) ∨ s.nx ≤ c) s s2 := (k3.mono fun _ e => e.elim).trans (K2.mono fun c h => by
      rcases h with h | h
      · exact .inl h
      · exact .inr (.inr (by omega)))
    have G2 : Gw s2 q M.length c 2 (ecs M) γ := (G.keep w k3 fun _ => id).keep w1 K2 fun hq h => by
      rcases h with ⟨x, hx, hq', h⟩ | h
      · exact hne x hx hq' hq h.symm
      · have := G.ltn w hq; omega
    refine run1 ?_
    refine W.loop (α := Nat × St × List Value) (fun p => [(0, .slice q M.length c), (5, .bool true), (6, nI p.1)]) (fun _ => []) (fun p => p.2.1)
      (fun p => p.1 ≤ M.length ∧ Kp (fun c => (∃ x ∈ efl M, x.q ≠ none ∧ c = x.γ) ∨ (q ≠ none ∧ c = γ) ∨ s.nx ≤ c) s p.2.1 ∧ Gw p.2.1 q M.length c 2 p.2.2 γ) (fun p => M.length - p.1) (0, s2, ecs M) ⟨Nat.zero_le _, K02, G2⟩ (.cons rfl (.cons rfl (.cons rfl .nil))) rfl rfl (by show M.length - 0 < _; omega) ?_
    rintro ⟨j, s3, cs⟩ ⟨m1, m2, m3⟩
    dsimp only at m1 m2 m3 ⊢
    have w3 := m2.wf w
    have hz : ∀ v ∈ [Value.slice none 0 0, Value.slice none 0 0], one v = true := by intro v hv; simp only [List.mem_cons, List.not_mem_nil, or_false] at hv; rcases hv with rfl | rfl <;> rfl
    by_cases hj : j < M.length
    · obtain ⟨b, hQ, hrw, _⟩ := m3.rw (by omega)
      have hcs := m3.len
      have gq : good q := by rw [hQ]; exact ⟨_, _, rfl⟩
      subst hQ
      refine run1 ?_
      refine Wo.st rfl rfl rfl rfl rfl rfl rfl hz hrw (by show 0 + j * 2 + 2 ≤ cs.length; omega) ?_
      intro s4 a1 a2 a3
      refine run1 ?_
      refine rnd.n (j + 1, s4, _) ⟨hj, m2.trans (a3.mono fun c h => .inr (.inl ⟨(fun h => by cases h), h⟩)), gw_put m3 rfl a1 ?_⟩ (by show M.length - (j + 1) < M.length - j; omega) (.cons rfl (.cons rfl (.cons rfl .nil))) rfl rfl
      exact lov_length (by show 0 + j * 2 + 2 ≤ cs.length; omega)
    · refine run1 ?_
      have w4 : Wf (mkRow s3 [.slice none 0 0, .slice none 0 0, .slice none 0 0, .slice none 0 0]) := mkRow_wf w3
      refine Wo.app2 rfl rfl rfl rfl rfl rfl rfl rfl rfl w4 (m3.keep w3 mkRow_kn fun _ => id) rfl (cells_at mkRow_sl.at rfl (by decide)) rfl (by intro v hv; simp only [List.mem_cons, List.not_mem_nil, or_false] at hv; rcases hv with rfl | rfl | rfl | rfl <;> rfl) rfl (by omega) (by omega) ?_
      intro q' c' γ' s5 G5 K5 hγ5
      refine run1 ?_
      exact Lv.ret rfl ⟨rfl, (m2.trans (mkRow_kn.mono fun _ e => e.elim)).trans (K5.mono fun c h => .inr (.inl h))⟩
end Go.Proofs.YtdibpdpcbnijeaaGreatDoor
/-
  cairnlaw14.Whole.
-/
namespace Go.Proofs.YtdibpdpcbnijeaaGreatDoor
open Go Go.Ev Go.Sy
set_option maxRecDepth 100000
variable {s : St} {q r : Option Addr} {c d : Nat} {M N : List Nat}
theorem OwnE.get {s : St} : ∀ {cs : List Value} {E : List Ety} {Γ : List Nat}, OwnE s cs E Γ → ∀ {i : Nat}, i < E.length → ∃ k v g j, cs[i * 2]? = some k ∧ cs[i * 2 + 1]? = some v ∧ Own s k (key E i) [77, 78, 79] g ∧ Own s v (val E i) [77, 78, 79] j := by
  intro cs E Γ
  induction E generalizing cs Γ with
  | nil => intro h i hi; simp at hi
  | cons e' E ih =>
    intro h i hi
    obtain ⟨a, b, ks, g', j', Δ, rfl, rfl, h3, h4, h5⟩ := h.cons_of
    cases i with
    | zero => exact ⟨a, b, g', j', rfl, rfl, h3, h4⟩
    | succ i =>
      obtain ⟨k, v, g, j, e1, e2, e3, e4⟩ := ih h5 (i := i) (by simpa using hi)
      exact ⟨k, v, g, j, by rw [show (i + 1) * 2 = i * 2 + 1 + 1 by omega]; exact e1, by rw [show (i + 1) * 2 + 1 = i * 2 + 1 + 1 + 1 by omega]; exact e2, e3, e4⟩
theorem whole1 {v : Value} {A : List Nat} {γ : Nat} (o : Own s v A [77, 78, 79] γ) (hb : Bs s r A) (hA : A.length < 2 ^ 60) : Cl B (.call 14 [v, .slice r A.length d]) s fun u s' => u = .bool true ∧ s' = s := by
  obtain ⟨b, c, rfl, h2, h3, h4⟩ := o.ex
  have hbs : Bs s (some ⟨b, 0, none⟩) (A ++ [77, 78, 79]) := by
    have := (h2.sl (o := 0) (n := ((A ++ [77, 78, 79]).map nB).length) (by omega)).at
    rwa [List.drop_zero, List.take_length] at this
  refine (whole_ok hbs rfl h3 h4 hb hA hA).mono fun u s' ⟨h, k⟩ => ⟨?_, k⟩
  rw [h, decide_eq_true ⟨rfl, rfl⟩]
theorem wholes_ok {b γ : Nat} {ks ds : List Value} {mk : Value} {E : List Ety} {Γ : List Nat} (hr : Rw s b (ks ++ [mk, .slice none 0 0]) γ) (hmk : BsV s mk [109, 97, 114, 107]) (ho : OwnE s ks E Γ) (hb : At s r ds) (hd : Ent s ds E) (hE : E.length < 2 ^ 60) :
    Cl B (.call 8 [.slice (some ⟨b, 0, none⟩) E.length (sure (E.length + 1)), .slice r E.length d]) s fun v s' => v = .bool true ∧ s' = s := by
  have hks : ks.length = E.length * 2 := ho.ent.length
  have hat : At s (some ⟨b, 0, none⟩) (ks ++ [mk, .slice none 0 0]) := by
    have := (hr.sl (o := 0) (n := (ks ++ [mk, .slice none 0 0]).length) (by omega)).at
    rwa [List.drop_zero, List.take_length] at this
  obtain ⟨qm, cm, rfl, bm, _⟩ := hmk
  have lm : ldq s (qadd (qadd (some ⟨b, 0, none⟩) (E.length * 2)) 0) = some (.slice qm [109, 97, 114, 107].length cm) := by
    rw [qadd_qadd, At.ld hat (i := E.length * 2 + 0) (by rw [List.length_append]; show _ < ks.length + 2; omega), ← List.getElem?_eq_getElem, List.getElem?_append_right (by omega), Nat.add_zero, hks, Nat.sub_self]; rfl
  refine Cl.enter Tryz.f8 fn8 rfl rfl rfl ?_
  have h1 : ¬ E.length ≠ E.length := fun h => h rfl
  have gb : good (some (⟨b, 0, none⟩ : Addr)) := ⟨b, 0, rfl⟩
  refine run1 ?_
  refine Wo.val (gT' rfl h1) (Xv.sl0 rfl rfl rfl rfl (by rw [cap_sure.1]; omega) fun _ => by rw [cap_sure.1]) rfl ?_
  refine run1 ?_
  refine Wo.val (gT' rfl h1) (Xv.b2s rfl rfl rfl rfl bm) rfl ?_
  refine run1 ?_
  refine Wo.val (gT' rfl h1) (Xv.sne rfl rfl) rfl ?_
  have h2 : ¬ (strB [109, 97, 114, 107] ≠ strB [109, 97, 114, 107]) := fun h => h rfl
  refine run1 ?_
  refine W.loop (α := Nat) (fun i => [(0, .slice (some ⟨b, 0, none⟩) E.length (sure (E.length + 1))), (1, .slice r E.length d), (5, nI i)]) (fun _ => []) (fun _ => s)
    (fun i => i ≤ E.length) (fun i => E.length - i) 0 (Nat.zero_le _) (.cons rfl (.cons rfl (.cons rfl .nil))) rfl rfl (by omega) ?_
  intro i k1
  by_cases hi : i < E.length
  · refine run1 ?_
    obtain ⟨g2, q3, c3, q4, c4, l3, l4, b3, b4, m3, m4⟩ := hd.ld hb hi
    obtain ⟨k, v, g, j, e1, e2, o1, o2⟩ := ho.get hi
    have l1 : ldq s (qadd (qadd (some ⟨b, 0, none⟩) (i * 2)) 0) = some k := by
      rw [qadd_qadd, At.ld hat (i := i * 2 + 0) (by rw [List.length_append]; omega), ← List.getElem?_eq_getElem, Nat.add_zero, List.getElem?_append_left (by omega)]; exact e1
    have l2 : ldq s (qadd (qadd (some ⟨b, 0, none⟩) (i * 2)) 1) = some v := by
      rw [qadd_qadd, At.ld hat (i := i * 2 + 1) (by rw [List.length_append]; omega), ← List.getElem?_eq_getElem, List.getElem?_append_left (by omega)]; exact e2
    obtain ⟨x1, y1, ek, hx1⟩ := o1.ex
    obtain ⟨x2, y2, ev2, hx2⟩ := o2.ex
    subst ek ev2
    refine W.dr [(0, .none, 0), (1, .none, 0), (2, .none, 3), (3, .none, 7), (4, .reads, 15), (5, .none, 0), (6, .none, 0), (7, .none, 96), (8, .none, 224), (9, .reads, 480), (10, .acts, 1023), (11, .none, 2047), (12, .none, 4095), (13, .none, 8191), (14, .none, 8191), (15, .none, 32767), (16, .none, 65535), (17, .reads, 131071), (18, .none, 8191), (19, .none, 8191), (20, .none, 794623), (21, .none, 1843199), (22, .reads, 3940351), (23, .acts, 8388607), (24, .none, 16777215), (25, .none, 33554431)] (by kernel_rfl) rfl ?_
    refine run1 ?_
    refine Wd.call rfl (Xc.call ok14 rfl) rfl ((whole1 o1 b3 m3).mono ?_)
    rintro v s' ⟨rfl, rfl⟩
    refine ⟨Nat.le_refl _, ?_⟩
    refine run1 ?_
    refine Wd.call rfl (Xc.call ok14 rfl) rfl ((whole1 o2 b4 m4).mono ?_)
    rintro v s' ⟨rfl, rfl⟩
    refine ⟨Nat.le_refl _, ?_⟩
    refine run1 ?_
    exact rnd.n (i + 1) hi (by omega) (.cons rfl (.cons rfl (.cons rfl .nil))) rfl rfl
  · refine run1 ?_
    exact Lv.ret rfl ⟨rfl, rfl⟩
end Go.Proofs.YtdibpdpcbnijeaaGreatDoor
/-
  The closed call: its hook.
-/
namespace Go.Proofs.YtdibpdpcbnijeaaGreatDoor
open Go Go.Ev Go.Sy Go.RowKit
set_option maxRecDepth 100000
theorem hasT_mem : ∀ {l : List (Nat × List Value)} {s : St}, hasT s l = true → ∀ p ∈ l, readAt s p.1 0 p.2.length = some p.2 ∨ p.2 = []
  | [], _, _, p, hp => by cases hp
  | (g, t) :: r, s, h, p, hp => by
    have h' : (sameL (match readAt s g 0 t.length with | some cs => cs | none => []) t && hasT s r) = true := h
    simp only [Bool.and_eq_true] at h'
    rcases List.mem_cons.1 hp with rfl | hp
    · have e := sameL_eq h'.1
      cases hr : readAt s g 0 t.length with
      | none => rw [hr] at e; exact .inr e.symm
      | some cs => rw [hr] at e; exact .inl (congrArg some e)
    · exact hasT_mem h'.2 p hp
theorem fixK_ok {N : Nat} : HookOk N Tryz.prog fixK := by
  intro f g hf args args' s s' v E w h ha hx
  unfold fixK at hf
  cases h1 : Nat.beq f 15 with
  | false => rw [h1] at hf; cases hf
  | true =>
    rw [h1] at hf
    cases hf
    obtain rfl := Nat.eq_of_beq_eq_true h1
    unfold fixH at hx
    split at hx
    case h_2 => cases hx
    cases hT : hasT s Dg.tabs with
    | false => rw [hT] at hx; cases hx
    | true =>
      rw [hT] at hx
      cases hx
      cases ha
      have ht : ∀ p ∈ Dg.tabs, p.1 < 1000 ∧ ∃ c t fr, w.heap[p.1]? = some (.cells c t fr) ∧ ∀ (i : Nat) (v : Value), p.2[i]? = some v → c[i]? = some v ∧ plain 1 v = true := fun p hp => by
        have hlt : p.1 < 1000 := (show ∀ p ∈ Dg.tabs, p.1 < 1000 by decide) p hp
        have hpl : ∀ v ∈ p.2, plain 1 v = true := fun v hv => List.all_eq_true.1 (List.all_eq_true.1 (show (Dg.tabs.all fun p => p.2.all (plain 1)) = true by kernel_rfl) p hp) v hv
        have hne : p.2 ≠ [] := fun e => by
          have : (Dg.tabs.all fun p => !p.2.isEmpty) = true := by kernel_rfl
          have := List.all_eq_true.1 this p hp
          rw [e] at this; cases this
        have hr := (hasT_mem hT p hp).resolve_right hne
        obtain ⟨t', j1, j2⟩ := readAt_cell Tryz.prog h.obs hr
        have e3 : t' = p.2 := VRs.plain_eq (p := plain 1) (fun v v' => plain_eq 1 v v') _ _ (List.all_eq_true.2 hpl) j1
        subst e3
        obtain ⟨i1, i2⟩ := h.base p.1 hlt
        rw [i1, i2] at j2
        have h0 : ∃ v0, p.2[0]? = some v0 := ⟨p.2[0]'(List.length_pos_iff.2 hne), List.getElem?_eq_getElem _⟩
        obtain ⟨v0, hv0⟩ := h0
        have hc0 := j2 0 v0 hv0
        unfold World.cell? at hc0
        split at hc0
        case h_2 => cases hc0
        rename_i c t fr hw
        refine ⟨hlt, c, t, fr, hw, fun i v hv => ⟨?_, hpl v (List.mem_of_getElem? hv)⟩⟩
        have hc := j2 i v hv
        unfold World.cell? at hc
        simp only at hw hc
        rw [hw] at hc
        simpa using hc
      refine (closed Dg.mixed Dg.hooks_ok ht whole).mono fun e w' ⟨he, hb⟩ => ⟨E, _, he, .bool _, stp_below h hb⟩
theorem Cl.hook {B : Bx} {f : FuncId} {g : List Value → St → Rv} {args : List Value} {s s' : St} {v : Value} {Q : Value → St → Prop} (hh : B.hook f = some g) (hg : g args s = .ok v s') (hQ : Q v s') : Cl B (.call f args) s Q := by
  refine ⟨v, s', ⟨1, fun m hm => ?_⟩, hQ⟩
  obtain ⟨m, rfl⟩ : ∃ k, m = k + 1 := ⟨m - 1, by omega⟩
  show (match B.hook f with | some h => orElse (h args s) (Ev.enter B.P (run B.P B.hook m) f args) s | none => Ev.enter B.P (run B.P B.hook m) f args s) = _
  rw [hh]
  show orElse (g args s) _ s = _
  rw [hg]; rfl
/-- The tables, where they lie. -/
def TabAt (s : St) : Prop := ∀ p ∈ Dg.tabs, At s (some ⟨p.1, 0, none⟩) p.2
theorem TabAt.has {s : St} (h : TabAt s) : hasT s Dg.tabs = true := by
  have key : ∀ l : List (Nat × List Value), (∀ p ∈ l, At s (some ⟨p.1, 0, none⟩) p.2) → (l.all fun p => sameL p.2 p.2) = true → hasT s l = true := fun l => by
    induction l with
    | nil => intro _ _; rfl
    | cons p l ih =>
      intro h hs
      obtain ⟨g, t⟩ := p
      have hs' : (sameL t t && l.all fun p => sameL p.2 p.2) = true := hs
      simp only [Bool.and_eq_true] at hs'
      have h1 := h (g, t) List.mem_cons_self
      show (sameL (match readAt s g 0 t.length with | some cs => cs | none => []) t && hasT s l) = true
      rw [ih (fun q hq => h q (List.mem_cons_of_mem _ hq)) hs'.2, Bool.and_true]
      rcases h1 with ⟨_, h1⟩ | ⟨b, o, h1, h2⟩
      · rcases h1 with h1 | ⟨_, _, _, h1⟩ <;> cases h1
      · cases h1; rw [show readAt s g 0 t.length = some t from h2]; exact hs'.1
  exact key _ h (by kernel_rfl)
theorem fixed_ok {s : St} (h : TabAt s) : Cl B (.call 15 []) s fun v s' => v = .bool true ∧ s' = s :=
  Cl.hook (g := fixH) rfl (by show cond (hasT s Dg.tabs) _ _ = _; rw [h.has]; rfl) ⟨rfl, rfl⟩
end Go.Proofs.YtdibpdpcbnijeaaGreatDoor
