import Derived.Test.YtdibpdpcbnijeaaGreatDoorCzzz
import Derived.Test.YtdibpdpcbnijeaaGreatDoorKmzz
import Derived.Test.YtdibpdpcbnijeaaGreatDoorCkzz
/-
  slices.Clone of entries, shape.Sort.
-/
namespace Go.Proofs.YtdibpdpcbnijeaaGreatDoor
open Go Go.Ev Go.Sy
set_option maxRecDepth 100000
variable {s s0 : St} {q : Option Addr} {c : Nat}
theorem sclone_ok {l : List El} (w : Wf s) (ha : At s q (cel l)) (hk : ∀ x ∈ l, BsV s x.1.1 x.2.1 ∧ BsV s x.1.2 x.2.2) (hl : l.length < 2 ^ 40) :
    Cl B (.call 16 [.slice q l.length c]) s fun v s' => ∃ q' c' γ, v = .slice q' l.length c' ∧ Gw s' q' l.length c' 2 (cel l) γ ∧ Kn s s' ∧ s.nx ≤ γ := by
  refine Cl.enter Tryz.f16 fn16 rfl rfl rfl ?_
  have hE := cel_ent hk
  by_cases hq : q = none
  · refine run1 ?_
    subst hq
    have hM : l = [] := by
      rcases ha with ⟨h, _⟩ | ⟨b, o, h, _⟩
      · cases l with
        | nil => rfl
        | cons => cases h
      · cases h
    subst hM
    exact Lv.ret rfl ⟨none, 0, s.nx, rfl, Gw.nil, .refl, Nat.le_refl _⟩
  · refine run1 ?_
    refine Wo.app rfl rfl rfl rfl rfl rfl rfl rfl rfl (mkRow_wf w) (Gw.mk0 rfl) rfl (cells_at (ha.kn w mkRow_kn) (cel_length l) (by decide)) (cel_length l) hE.one rfl (by omega) (by omega) ?_
    intro q' c' γ' s' h1 h2 h3
    refine run1 ?_
    refine Lv.ret rfl ⟨q', c', γ', ?_, by rwa [Nat.zero_add] at h1, Kn.app mkRow_kn h2 (Nat.le_refl _), ?_⟩
    · show Value.slice q' (0 + l.length) c' = _; rw [Nat.zero_add]
    · rcases h3 with h | ⟨h, _⟩
      · exact Nat.le_of_eq h.symm
      · rw [h]; exact Nat.le_succ _
theorem bykey_kn {b γ : Nat} {l : List El} {i j : Nat} {x y : El} (h : Dt s0 s b l γ) (hx : l[i]? = some x) (hy : l[j]? = some y) :
    Cl B (.call 18 [.agg ⟨[x.1.1, x.1.2]⟩, .agg ⟨[y.1.1, y.1.2]⟩]) s fun v s' => v = .int .i64 (cmp x.2.1 y.2.1) ∧ Kn s s' := by
  obtain ⟨q1, c1, _, _, e1, _, b1, _, n1, _⟩ := h.el hx
  obtain ⟨q2, c2, _, _, e2, _, b2, _, n2, _⟩ := h.el hy
  rw [e1, e2]
  exact bykey_ok h.wf b1 b2 n1 n2
/-- bytes.Clone, as a list that was handed out. -/
theorem clone_ce {v : Value} {A : List Nat} (w : Wf s) (ha : BsV s v A) (hA : A.length < 2 ^ 40) :
    Cl B (.call 19 [v]) s fun u s' => ∃ x : Ce, u = .slice x.q x.A.length x.c ∧ x.A = A ∧ CeOk s' s.nx x ∧ Kn s s' := by
  obtain ⟨q, c, rfl, h1, h2⟩ := ha
  refine (clone_ok w h1 (by omega)).mono ?_
  rintro u s' ⟨q', c', γ, rfl, g, k, hn⟩
  exact ⟨⟨q', c', γ, A⟩, rfl, rfl, ⟨g, fun _ => hn, hA⟩, k⟩
set_option maxHeartbeats 1600000 in
theorem ssort_ok {l : List El} (w : Wf s) (ha : At s q (cel l)) (hk : ∀ x ∈ l, BsV s x.1.1 x.2.1 ∧ BsV s x.1.2 x.2.2) (hl : l.length < 2 ^ 40) (hm : ∀ x ∈ l, x.2.1.length < 2 ^ 40 ∧ x.2.2.length < 2 ^ 40) :
    Cl B (.call 5 [.slice q l.length c]) s fun v s' => ∃ q' c' γ M, v = .slice q' (canon (l.map Prod.snd)).length c' ∧ Res s.nx s' q' (canon (l.map Prod.snd)).length c' γ M ∧ ect M = canon (l.map Prod.snd) ∧ Kn s s' := by
  refine Cl.enter Tryz.f5 fn5 rfl rfl rfl ?_
  refine run1 ?_
  refine Wo.call rfl (Xc.call ok16 rfl) rfl ((sclone_ok w ha hk hl).mono ?_)
  rintro v s1 ⟨q1, c1, γ1, rfl, G1, kn1, n1⟩
  refine run1 ?_
  rcases G1.at' with ⟨rfl, hn0, rfl⟩ | ⟨b, g, rfl, hb, hg, hcap⟩
  · have hl0 : l = [] := List.eq_nil_of_length_eq_zero hn0
    subst hl0
    refine Wo.call rfl (Xc.call ok17 rfl) rfl (sorts_nil.mono ?_)
    rintro v s' rfl
    refine run1 ?_
    have h0 : ¬ (0 < 0) := by omega
    refine W.loop (α := Unit) (fun _ => [(4, .slice none 0 0), (12, nI 0), (13, nI 0)]) (fun _ => []) (fun _ => s') (fun _ => True) (fun _ => 0) () trivial (.cons rfl (.cons rfl (.cons rfl .nil))) rfl rfl (by decide) ?_
    intro _ _
    refine run1 ?_
    exact Lv.ret rfl ⟨none, 0, s.nx, [], rfl, ⟨Gw.nil, .nil, fun h => absurd rfl h, by simp [efl]⟩, rfl, kn1⟩
  · have D1 : Dt s s1 b l γ1 := ⟨w, kn1.mono fun _ e => e.elim, ⟨g, hb, hg⟩, n1, hk⟩
    refine Wo.call rfl (Xc.call ok17 rfl) rfl ((sorts_ok D1 rfl (by omega)).mono ?_)
    rintro v s2 ⟨l2, D2, a1, a2, a3⟩
    have fin : (kpl eky l2).map Prod.snd = canon (l.map Prod.snd) := by
      rw [← sort_canon (g := Prod.snd) a1 a2]; exact kpl_map (f := Prod.fst) (g := Prod.snd)
    have hm2 : ∀ x ∈ l2, x.2.1.length < 2 ^ 40 ∧ x.2.2.length < 2 ^ 40 := fun x hx => hm x ((a1.mem x).1 hx)
    have hlen2 : l2.length = l.length := a3
    generalize canon (l.map Prod.snd) = D at fin ⊢
    refine run1 ?_
    refine W.loop (α := Nat × St × (Option Addr × Nat × Nat) × EC) (fun p => [(3, .slice (some ⟨b, 0, none⟩) l.length c1), (4, .slice p.2.2.1.1 p.2.2.2.length p.2.2.1.2.1), (11, .slice (some ⟨b, 0, none⟩) l.length c1), (12, nI l.length), (13, nI p.1)]) (fun _ => []) (fun p => p.2.1)
      (fun p => p.1 ≤ l.length ∧ p.2.2.2.length ≤ p.1 ∧ Dt s p.2.1 b l2 γ1 ∧ Res s.nx p.2.1 p.2.2.1.1 p.2.2.2.length p.2.2.1.2.1 p.2.2.1.2.2 p.2.2.2 ∧ (p.2.2.1.1 ≠ none → p.2.2.1.2.2 ≠ γ1) ∧ ect p.2.2.2 ++ (kpl eky (l2.drop p.1)).map Prod.snd = D)
      (fun p => l.length - p.1) (0, s2, (none, 0, 0), []) ⟨Nat.zero_le _, Nat.le_refl _, D2, ⟨Gw.nil, .nil, fun h => absurd rfl h, by simp [efl]⟩, fun h => absurd rfl h, fin⟩ (.cons rfl (.cons rfl (.cons rfl (.cons rfl (.cons rfl .nil))))) rfl rfl (by show l.length - 0 < _; omega) ?_
    rintro ⟨i, s3, ⟨qo, co, γo⟩, M⟩ ⟨k1, k1', k2, k3, k4, k5⟩
    dsimp only at k1 k1' k2 k3 k4 k5 ⊢
    by_cases hi : i < l.length
    · obtain ⟨x, hx⟩ := at_lt (l := l2) (k := i) (by omega)
      have hi2 : i < l2.length := by omega
      have hxe : l2[i] = x := by rw [List.getElem?_eq_getElem hi2] at hx; injection hx
      have d1 := k2.ldn hx
      have g1 : good (some (⟨b, 0, none⟩ : Addr)) := ⟨_, _, rfl⟩
      have g2 : good (some (⟨s3.nx, 0, none⟩ : Addr)) := ⟨_, _, rfl⟩
      refine run1 ?_
      have w3 := k2.wf
      refine Wo.st rfl rfl rfl rfl rfl rfl rfl (k2.one hx) mkRow_rw (by decide) ?_
      intro s4 j1 j2 j3
      have kn4 : Kn s3 s4 := Kn.app mkRow_kn j3 (Nat.le_refl _)
      have D4 := k2.kn kn4
      have w4 := D4.wf
      have R4 : Rw s4 s3.nx [x.1.1, x.1.2] s3.nx := j1
      have A4 : At s4 (some ⟨s3.nx, 0, none⟩) [x.1.1, x.1.2] := by have := (R4.sl (o := 0) (n := 2) (by simp)).at; exact this
      have dx : ldn s4 (some ⟨s3.nx, 0, none⟩) 2 = some [x.1.1, x.1.2] := A4.ldn (i := 0) (n := 2) (by simp) (by decide)
      have l1 : ldq s4 (qadd (some ⟨s3.nx, 0, none⟩) 0) = some x.1.1 := At.ld A4 (i := 0) (by simp)
      have l2' : ldq s4 (qadd (some ⟨s3.nx, 0, none⟩) 1) = some x.1.2 := At.ld A4 (i := 1) (by simp)
      have RR4 := k3.kn w3 kn4
      have kd := kpl_drop (f := eky) hi2
      rw [hxe] at kd
      refine run1 ?_
      refine W.dr [(0, .none, 0), (1, .none, 1), (2, .none, 0), (3, .none, 4), (4, .none, 15), (5, .none, 31), (6, .reads, 63), (7, .none, 63), (8, .none, 63), (9, .none, 319), (10, .none, 959), (11, .reads, 1983), (12, .acts, 4095), (13, .none, 8191), (14, .none, 16383)] (by kernel_rfl) rfl ?_
      refine run1 ?_
      by_cases hex : ∃ y, l2[i + 1]? = some y ∧ eky x = eky y
      · rw [if_pos hex] at kd
        obtain ⟨y, hy, hxy⟩ := hex
        have hi3 : i + 1 < l.length := by have := (List.getElem?_eq_some_iff.1 hy).1; omega
        have d2 := D4.ldn hy
        refine Wd.read (gT rfl hi3) (Xv.ldN rfl rfl rfl dx) rfl (D4.eqv hx) ⟨Xv.ldN rfl rfl rfl dx, trivial⟩ ?_
        refine run1 ?_
        refine Wd.read (gT rfl hi3) (Xv.ldN rfl rfl rfl d2) rfl (D4.eqv hy) ⟨Xv.ldN rfl rfl rfl d2, trivial⟩ ?_
        refine Wd.call (gT rfl hi3) (Xc.call ok18 rfl) rfl ((bykey_kn D4 hx hy).mono ?_)
        rintro v s5 ⟨rfl, kn5⟩
        refine ⟨kn5.le, ?_⟩
        have hc : cmp x.2.1 y.2.1 = Int.ofNat 0 := cmp_zero.2 hxy
        refine run1 ?_
        refine rnd.n (i + 1, s5, (qo, co, γo), M) ⟨hi, by show M.length ≤ i + 1; omega, D4.kn kn5, RR4.kn w4 kn5, k4, ?_⟩ (by show l.length - (i + 1) < l.length - i; omega) (.cons rfl (.cons rfl (.cons rfl (.cons rfl (.cons rfl .nil))))) rfl rfl
        rw [kd] at k5; exact k5
      · rw [if_neg hex] at kd
        refine Wd.meet (α := St) (fun _ => [(3, .slice (some ⟨b, 0, none⟩) l.length c1), (4, .slice qo M.length co), (6, .pointer (some ⟨s3.nx, 0, none⟩)), (11, .slice (some ⟨b, 0, none⟩) l.length c1), (12, nI l.length), (13, nI i)]) (fun p => p) (fun s5 => Kn s4 s5) ?_ ?_
        · by_cases hi3 : i + 1 < l.length
          · obtain ⟨y, hy⟩ := at_lt (l := l2) (k := i + 1) (by omega)
            have d2 := D4.ldn hy
            refine Wd.read (gT rfl hi3) (Xv.ldN rfl rfl rfl dx) rfl (D4.eqv hx) ⟨Xv.ldN rfl rfl rfl dx, trivial⟩ ?_
            refine run1 ?_
            refine Wd.read (gT rfl hi3) (Xv.ldN rfl rfl rfl d2) rfl (D4.eqv hy) ⟨Xv.ldN rfl rfl rfl d2, trivial⟩ ?_
            refine Wd.call (gT rfl hi3) (Xc.call ok18 rfl) rfl ((bykey_kn D4 hx hy).mono ?_)
            rintro v s5 ⟨rfl, K5⟩
            refine ⟨K5.le, ?_⟩
            have hc : ¬ cmp x.2.1 y.2.1 = Int.ofNat 0 := fun h => hex ⟨y, hy, cmp_zero.1 h⟩
            refine run1 ?_
            exact meet.n s5 K5 (.cons rfl (.cons rfl (.cons rfl (.cons rfl (.cons rfl (.cons rfl .nil)))))) rfl
          · refine run1 ?_
            exact meet.n s4 .refl (.cons rfl (.cons rfl (.cons rfl (.cons rfl (.cons rfl (.cons rfl .nil)))))) rfl
        intro s5 kn5
        have w5 := kn5.wf w4
        have D5 := D4.kn kn5
        have RR5 := RR4.kn w4 kn5
        obtain ⟨qa, ca, qb, cb, ea, eb, ba, bb, na, nb⟩ := D5.el hx
        have m1 : ldq s5 (qadd (some ⟨s3.nx, 0, none⟩) 0) = some (.slice qa x.2.1.length ca) := by rw [← ea]; exact ldq_kn l1 w4 kn5
        have m2 : ldq s5 (qadd (some ⟨s3.nx, 0, none⟩) 1) = some (.slice qb x.2.2.length cb) := by rw [← eb]; exact ldq_kn l2' w4 kn5
        obtain ⟨hA1, hA2⟩ := hm2 x (List.mem_of_getElem? hx)
        refine W.dr [(1, .none, 0), (2, .reads, 2), (3, .acts, 6), (4, .none, 0), (5, .reads, 16), (6, .acts, 62), (0, .none, 0), (7, .none, 126), (8, .makes, 254), (9, .acts, 511), (10, .none, 1023)] (by kernel_rfl) rfl ?_
        refine run1 ?_
        refine Wd.call rfl (Xc.call ok19 rfl) rfl ((clone_ce (A := x.2.1) w5 ⟨qa, ca, rfl, ba, na⟩ hA1).mono ?_)
        rintro v s6 ⟨x1, rfl, hx1, ok1, kn6⟩
        refine ⟨kn6.le, ?_⟩
        have w6 := kn6.wf w5
        have m3 := ldq_kn m2 w5 kn6
        refine run1 ?_
        refine Wd.call rfl (Xc.call ok19 rfl) rfl ((clone_ce (A := x.2.2) w6 ⟨qb, cb, rfl, bb.kn w5 kn6, nb⟩ hA2).mono ?_)
        rintro v s7 ⟨x2, rfl, hx2, ok2, kn7⟩
        refine ⟨kn7.le, ?_⟩
        have w7 := kn7.wf w6
        refine run1 ?_
        have kn57 : Kn s5 s7 := kn6.trans kn7
        have RR7 := RR5.kn w5 kn57
        have w8 : Wf (mkRow s7 [.slice x1.q x1.A.length x1.c, .slice x2.q x2.A.length x2.c]) := mkRow_wf w7
        have RR8 := RR7.kn w7 (mkRow_kn (cs := [.slice x1.q x1.A.length x1.c, .slice x2.q x2.A.length x2.c]))
        have hML : M.length ≤ l.length := by omega
        refine Wd.app2 rfl rfl rfl rfl rfl rfl rfl rfl rfl w8 RR8.gw rfl (cells_at mkRow_sl.at rfl (by decide)) rfl (by intro v hv; simp only [List.mem_cons, List.not_mem_nil, or_false] at hv; rcases hv with rfl | rfl <;> rfl) rfl (by omega) (by omega) ?_
        intro q' c' γ' s9 G9 K9 hγ'
        refine run1 ?_
        have w9 := K9.wf w8
        have D8 := (D5.kn kn57).kn (mkRow_kn (cs := [.slice x1.q x1.A.length x1.c, .slice x2.q x2.A.length x2.c]))
        have nx34 := kn4.le
        have nx45 := kn5.le
        have nx56 := kn6.le
        have nx67 := kn7.le
        have ns3 := k2.kp.le
        have hnx8 : (mkRow s7 [.slice x1.q x1.A.length x1.c, .slice x2.q x2.A.length x2.c]).nx = s7.nx + 1 := rfl
        have hγo : qo ≠ none → γo < s3.nx := fun hq => k3.gw.ltn w3 hq
        have hγ1 : γ1 < s3.nx := (k2.rw.lt w3).2
        have lt1 : x1.q ≠ none → x1.γ < s6.nx := fun hq => ok1.gw.ltn w6 hq
        have lt2 : x2.q ≠ none → x2.γ < s7.nx := fun hq => ok2.gw.ltn w7 hq
        have ok1' : CeOk s9 s.nx x1 := ⟨((ok1.gw.keep w6 kn7 fun _ => id).keep w7 (mkRow_kn (cs := [.slice x1.q x1.A.length x1.c, .slice x2.q x2.A.length x2.c])) fun _ => id).keep w8 K9 fun hq h => by have := ok1.lo hq; have := hγo h.1; omega, fun hq => by have := ok1.lo hq; omega, ok1.sm⟩
        have ok2' : CeOk s9 s.nx x2 := ⟨(ok2.gw.keep w7 (mkRow_kn (cs := [.slice x1.q x1.A.length x1.c, .slice x2.q x2.A.length x2.c])) fun _ => id).keep w8 K9 fun hq h => by have := ok2.lo hq; have := hγo h.1; omega, fun hq => by have := ok2.lo hq; omega, ok2.sm⟩
        have F9 : Fc s9 s.nx (efl M) := RR8.fc.kp w8 K9 fun y hy hq h => RR8.ne y hy hq h.1 h.2
        have ltM : ∀ y ∈ efl M, y.q ≠ none → y.γ < s3.nx := fun y hy hq => k3.fc.lt w3 hy hq
        have F2 : Fc s9 s.nx [x1, x2] := ⟨fun y hy => by
          simp only [List.mem_cons, List.not_mem_nil, or_false] at hy
          rcases hy with rfl | rfl
          · exact ok1'
          · exact ok2', List.pairwise_pair.2 fun h1 h2 => by have := lt1 h1; have := ok2.lo h2; omega⟩
        have FF : Fc s9 s.nx (efl M ++ [x1, x2]) := F9.app F2 (Nat.le_refl _) fun y hy z hz h1 h2 => by
          have a := ltM y hy h1
          simp only [List.mem_cons, List.not_mem_nil, or_false] at hz
          rcases hz with rfl | rfl
          · have := ok1.lo h2; omega
          · have := ok2.lo h2; omega
        refine rnd.n (i + 1, s9, (q', c', γ'), M ++ [(x1, x2)]) ⟨hi, by show (M ++ [(x1, x2)]).length ≤ i + 1; rw [List.length_append]; show M.length + 1 ≤ i + 1; omega, D8.kpc K9 (fun c h => by rw [h.2]; exact k3.lo h.1) (fun h => k4 h.1 h.2.symm), ⟨?_, ?_, ?_, ?_⟩, ?_, ?_⟩ (by show l.length - (i + 1) < l.length - i; omega) (.cons rfl (.cons (by show some (Value.slice q' (M.length + 1) c') = some (Value.slice q' (M ++ [(x1, x2)]).length c'); rw [List.length_append]; rfl) (.cons rfl (.cons rfl (.cons rfl .nil))))) rfl rfl
        · show Gw s9 q' (M ++ [(x1, x2)]).length c' 2 (ecs (M ++ [(x1, x2)])) γ'
          rw [ecs_app, List.length_append]; exact G9
        · show Fc s9 s.nx (efl (M ++ [(x1, x2)]))
          rw [efl_app]; exact FF
        · intro _
          show s.nx ≤ γ'
          rcases hγ' with ⟨h1, h2⟩ | h2
          · rw [h2]; exact k3.lo h1
          · rw [h2]; omega
        · intro y hy hq _
          show y.γ ≠ γ'
          rw [efl_app] at hy
          rcases hγ' with ⟨h1, h2⟩ | h2
          · rw [h2]
            rcases List.mem_append.1 hy with hy | hy
            · exact k3.ne y hy hq h1
            · have := hγo h1
              simp only [efl, List.flatMap_cons, List.flatMap_nil, List.append_nil, List.mem_cons, List.not_mem_nil, or_false] at hy
              rcases hy with rfl | rfl
              · have := ok1.lo hq; omega
              · have := ok2.lo hq; omega
          · rw [h2]
            rcases List.mem_append.1 hy with hy | hy
            · have := ltM y hy hq; omega
            · simp only [efl, List.flatMap_cons, List.flatMap_nil, List.append_nil, List.mem_cons, List.not_mem_nil, or_false] at hy
              rcases hy with rfl | rfl
              · have := lt1 hq; omega
              · have := lt2 hq; omega
        · intro _
          show γ' ≠ γ1
          rcases hγ' with ⟨h1, h2⟩ | h2
          · rw [h2]; exact k4 h1
          · rw [h2]; omega
        · show ect (M ++ [(x1, x2)]) ++ (kpl eky (l2.drop (i + 1))).map Prod.snd = D
          rw [ect_app, ← k5, kd, List.map_cons, List.append_assoc]
          show ect M ++ ((x1.A, x2.A) :: _) = _
          rw [hx1, hx2]; rfl
    · refine run1 ?_
      have hie : i = l.length := by omega
      rw [hie, ← hlen2, List.drop_eq_nil_of_le (Nat.le_refl _)] at k5
      have k5' : ect M = D := by simpa [kpl] using k5
      have hML : M.length = D.length := by rw [← k5', ect_length]
      refine Lv.ret rfl ⟨qo, co, γo, M, by rw [← hML]; rfl, by rw [← hML]; exact k3, k5', Kp.new .refl k2.kp (Nat.le_refl _)⟩
end Go.Proofs.YtdibpdpcbnijeaaGreatDoor
