import Derived.Test.YtdibpdpcbnijeaaGreatDoorCtzz
import Derived.Test.YtdibpdpcbnijeaaGreatDoorWslzz
/-
  cairnref11.Sort, cairnref14.Sort.
-/
namespace Go.Proofs.YtdibpdpcbnijeaaGreatDoor
open Go Go.Ev Go.Sy
set_option maxRecDepth 100000
variable {s s0 : St} {q : Option Addr} {c : Nat}
/-- A list of entries that grows, its cells taken over from others. -/
structure Gl (s0 s : St) (q : Option Addr) (c γ : Nat) (l : List El) : Prop where
  w0 : Wf s0
  kp : Kp (fun c => s0.nx ≤ c) s0 s
  gw : Gw s q l.length c 2 (cel l) γ
  lo : q ≠ none → s0.nx ≤ γ
  ks : ∀ x ∈ l, BsV s0 x.1.1 x.2.1 ∧ BsV s0 x.1.2 x.2.2
theorem Gl.wf {s0 s : St} {q : Option Addr} {c γ : Nat} {l : List El} (h : Gl s0 s q c γ l) : Wf s := h.kp.wf h.w0
theorem Gl.at {s0 s : St} {q : Option Addr} {c γ : Nat} {l : List El} (h : Gl s0 s q c γ l) : At s q (cel l) := h.gw.sl.at
theorem Gl.ent {s0 s : St} {q : Option Addr} {c γ : Nat} {l : List El} (h : Gl s0 s q c γ l) : Ent s (cel l) (l.map Prod.snd) := cel_ent fun x hx => ⟨(h.ks x hx).1.kpN h.w0 h.kp, (h.ks x hx).2.kpN h.w0 h.kp⟩
theorem Gl.kn {s0 s s' : St} {q : Option Addr} {c γ : Nat} {l : List El} (h : Gl s0 s q c γ l) (k : Kn s s') : Gl s0 s' q c γ l := ⟨h.w0, h.kp.trans (k.mono fun _ e => e.elim), h.gw.keep h.wf k fun _ => id, h.lo, h.ks⟩
theorem Gl.kpc {C : Nat → Prop} {s0 s s' : St} {q : Option Addr} {c γ : Nat} {l : List El} (h : Gl s0 s q c γ l) (k : Kp C s s') (h1 : ∀ c, C c → s0.nx ≤ c) (h2 : q ≠ none → ¬ C γ) : Gl s0 s' q c γ l := ⟨h.w0, h.kp.trans (k.mono h1), h.gw.keep h.wf k h2, h.lo, h.ks⟩
theorem key_snd {l : List El} {i : Nat} {x : El} (h : l[i]? = some x) : key (l.map Prod.snd) i = x.2.1 ∧ val (l.map Prod.snd) i = x.2.2 := by
  unfold key val
  rw [List.getD_eq_getElem?_getD, List.getElem?_map, h]; exact ⟨rfl, rfl⟩
theorem cel_one {s : St} {l : List El} (h : ∀ x ∈ l, BsV s x.1.1 x.2.1 ∧ BsV s x.1.2 x.2.2) : ∀ v ∈ cel l, one v = true := (cel_ent h).one
theorem cel_take {l : List El} {n : Nat} : (cel l).take (n * 2) = cel (l.take n) := by
  induction n generalizing l with
  | zero => rfl
  | succ n ih => cases l with
    | nil => rfl
    | cons x l => rw [show (n + 1) * 2 = n * 2 + 1 + 1 by omega, cel_cons, List.take_succ_cons, List.take_succ_cons, ih]; rfl
theorem cel_drop {l : List El} {n : Nat} : (cel l).drop (n * 2) = cel (l.drop n) := by
  induction n generalizing l with
  | zero => rfl
  | succ n ih => cases l with
    | nil => rfl
    | cons x l => rw [show (n + 1) * 2 = n * 2 + 1 + 1 by omega, cel_cons, List.drop_succ_cons, List.drop_succ_cons, ih]; rfl
set_option maxHeartbeats 1600000 in
theorem rsort_ok {l : List El} (w : Wf s) (ha : At s q (cel l)) (hk : ∀ x ∈ l, BsV s x.1.1 x.2.1 ∧ BsV s x.1.2 x.2.2) (hl : l.length < 2 ^ 40) :
    Cl B (.call 20 [.slice q l.length c]) s fun v s' => ∃ q' c' γ D, v = .slice q' D.length c' ∧ Gl s s' q' c' γ D ∧ D.map Prod.snd = canon (l.map Prod.snd) ∧ (∀ x ∈ D, x ∈ l) ∧ D.length ≤ l.length := by
  refine Cl.enter Tryz.f20 fn20 rfl rfl rfl ?_
  have hE := cel_ent hk
  refine run1 ?_
  refine W.loop (α := Nat × St × (Option Addr × Nat × Nat) × List El) (fun p => [(0, .slice q l.length c), (3, .slice p.2.2.1.1 p.2.2.2.length p.2.2.1.2.1), (4, nI p.1)]) (fun _ => []) (fun p => p.2.1)
    (fun p => p.1 ≤ l.length ∧ p.2.2.2.length ≤ p.1 ∧ Gl s p.2.1 p.2.2.1.1 p.2.2.1.2.1 p.2.2.1.2.2 p.2.2.2 ∧ p.2.2.2.map Prod.snd = canon ((l.take p.1).map Prod.snd) ∧ ∀ x ∈ p.2.2.2, x ∈ l)
    (fun p => l.length - p.1) (0, s, (none, 0, 0), []) ⟨Nat.zero_le _, Nat.le_refl _, ⟨w, .refl, Gw.nil, fun h => absurd rfl h, by simp⟩, rfl, by simp⟩ (.cons rfl (.cons rfl (.cons rfl .nil))) rfl rfl (by show l.length - 0 < _; omega) ?_
  rintro ⟨i, s1, ⟨ql, cl, γl⟩, D⟩ ⟨k1, k2, k3, k4, k5⟩
  dsimp only at k1 k2 k3 k4 k5 ⊢
  by_cases hi : i < l.length
  · obtain ⟨x, hx⟩ := at_lt hi
    have ha1 : At s1 q (cel l) := by
      obtain ⟨γ, h4, h5⟩ := At.sl ha
      exact (h4.kp w k3.kp (by have := h5 w; omega)).at
    have d1 : ldn s1 (qadd q (i * 2)) 2 = some [x.1.1, x.1.2] := by rw [At.ldn ha1 (by rw [cel_length]; omega) (by decide), cel_get hx]
    have gq : good q := At.good ha1 (i := i * 2) (by rw [cel_length]; omega)
    have hone : ∀ v ∈ [x.1.1, x.1.2], one v = true := by
      obtain ⟨⟨q1, c1, e1, _⟩, ⟨q2, c2, e2, _⟩⟩ := hk x (List.mem_of_getElem? hx)
      rw [e1, e2]; intro v hv; simp only [List.mem_cons, List.not_mem_nil, or_false] at hv; rcases hv with rfl | rfl <;> rfl
    refine run1 ?_
    refine Wo.st rfl rfl rfl rfl rfl rfl rfl hone mkRow_rw (by decide) ?_
    intro s2 j1 j2 j3
    have kn2 : Kn s1 s2 := Kn.app mkRow_kn j3 (Nat.le_refl _)
    have G2 := k3.kn kn2
    have w2 := G2.wf
    have R2 : Rw s2 s1.nx [x.1.1, x.1.2] s1.nx := j1
    have A2 : At s2 (some ⟨s1.nx, 0, none⟩) [x.1.1, x.1.2] := by have := (R2.sl (o := 0) (n := 2) (by simp)).at; exact this
    have dx : ldn s2 (some ⟨s1.nx, 0, none⟩) 2 = some [x.1.1, x.1.2] := A2.ldn (i := 0) (n := 2) (by simp) (by decide)
    obtain ⟨qa, ca, ea, ba, na⟩ := (hk x (List.mem_of_getElem? hx)).1.kpN w G2.kp
    obtain ⟨qb, cb, eb, bb, nb⟩ := (hk x (List.mem_of_getElem? hx)).2.kpN w G2.kp
    have exy : [x.1.1, x.1.2] = [.slice qa x.2.1.length ca, .slice qb x.2.2.length cb] := by rw [← ea, ← eb]
    have lx : ldq s2 (qadd (some ⟨s1.nx, 0, none⟩) 0) = some (.slice qa x.2.1.length ca) := by rw [← ea]; exact At.ld A2 (i := 0) (by simp)
    have g2 : good (some (⟨s1.nx, 0, none⟩ : Addr)) := ⟨_, _, rfl⟩
    have hEl := G2.ent
    have hAl := G2.at
    have hDl : (D.map Prod.snd).length = D.length := List.length_map _
    have ldD : ∀ {m : Nat} {y : El}, D[m]? = some y → good ql ∧ ∃ q1 c1, ldq s2 (qadd (qadd ql (m * 2)) 0) = some (.slice q1 y.2.1.length c1) ∧ Bs s2 q1 y.2.1 ∧ y.2.1.length < 2 ^ 60 := fun {m y} hy => by
      have hm : m < D.length := (List.getElem?_eq_some_iff.1 hy).1
      obtain ⟨g, q1, c1, _, _, l1, _, b1, _, n1, _⟩ := hEl.ld hAl (i := m) (by omega)
      rw [(key_snd hy).1] at l1 b1 n1
      exact ⟨g, q1, c1, l1, b1, n1⟩
    refine run1 ?_
    refine W.loop (α := Nat × Nat) (fun p => [(0, .slice q l.length c), (3, .slice ql D.length cl), (4, nI i), (5, .pointer (some ⟨s1.nx, 0, none⟩)), (6, nI p.1), (7, nI p.2)]) (fun _ => []) (fun _ => s2)
      (fun p => p.1 ≤ p.2 ∧ p.2 ≤ D.length ∧ (p.1 = 0 ∨ ∃ y, D[p.1 - 1]? = some y ∧ 0 < p.1 ∧ Lt y.2.1 x.2.1) ∧ (p.2 = D.length ∨ ∃ y, D[p.2]? = some y ∧ ¬ Lt y.2.1 x.2.1))
      (fun p => p.2 - p.1) (0, D.length) ⟨Nat.zero_le _, Nat.le_refl _, .inl rfl, .inl rfl⟩ (.cons rfl (.cons rfl (.cons rfl (.cons rfl (.cons rfl (.cons rfl .nil)))))) rfl rfl (by show D.length - 0 < _; omega) ?_
    rintro ⟨lo, hi'⟩ ⟨m1, m2, m3, m4⟩
    dsimp only at m1 m2 m3 m4 ⊢
    by_cases hlh : lo < hi'
    · refine run1 ?_
      have hb1 : lo ≤ (lo + hi') / 2 := by omega
      have hb2 : (lo + hi') / 2 < hi' := by omega
      obtain ⟨t, ht⟩ : ∃ t, t = (lo + hi') / 2 := ⟨_, rfl⟩
      rw [← ht] at hb1 hb2 ⊢
      obtain ⟨y, hy⟩ := at_lt (l := D) (k := t) (by omega)
      obtain ⟨gl, q1, c1, l1, b1, n1⟩ := ldD hy
      refine W.dr [(0, .none, 0), (1, .none, 0), (2, .none, 3), (3, .none, 7), (4, .reads, 15), (5, .none, 0), (6, .reads, 32), (7, .acts, 127), (8, .none, 255)] (by kernel_rfl) rfl ?_
      refine run1 ?_
      refine Wd.call rfl (Xc.call ok34 rfl) rfl ((rcompare_ok b1 ba n1 na).mono ?_)
      rintro v s' ⟨rfl, rfl⟩
      refine ⟨Nat.le_refl _, ?_⟩
      by_cases hc : cmp y.2.1 x.2.1 < Int.ofNat 0
      · refine run1 ?_
        exact rnd.n (t + 1, hi') ⟨by show t + 1 ≤ hi'; omega, m2, .inr ⟨y, hy, by show 0 < t + 1; omega, hc⟩, m4⟩ (by show hi' - (t + 1) < hi' - lo; omega) (.cons rfl (.cons rfl (.cons rfl (.cons rfl (.cons rfl (.cons rfl .nil)))))) rfl rfl
      · refine run1 ?_
        exact rnd.n (lo, t) ⟨hb1, by show t ≤ D.length; omega, m3, .inr ⟨y, hy, hc⟩⟩ (by show t - lo < hi' - lo; omega) (.cons rfl (.cons rfl (.cons rfl (.cons rfl (.cons rfl (.cons rfl .nil)))))) rfl rfl
    · have hie : hi' = lo := by omega
      subst hie
      have hSS : SS (D.map Prod.snd) := by rw [k4]; exact canon_ss _
      refine run1 ?_
      refine Wo.slHi rfl rfl rfl rfl rfl rfl G2.gw m2 (by omega) ?_
      intro A3
      rw [cel_take] at A3
      have tl : (D.take hi').length = hi' := by rw [List.length_take]; omega
      have hksD : ∀ y ∈ D, BsV s y.1.1 y.2.1 ∧ BsV s y.1.2 y.2.2 := k3.ks
      refine Wo.app2 rfl rfl rfl rfl rfl rfl rfl rfl rfl w2 (Gw.nil (γ := s2.nx)) rfl (cells_at A3 (by rw [cel_length, tl]) (by decide)) (by rw [cel_length, tl]) (cel_one fun y hy => hksD y (List.mem_of_mem_take hy)) rfl (by omega) (by omega) ?_
      intro q3 c3 γ3 s3 G3 K3 hγ3
      have hγ3' : γ3 = s2.nx := by
        rcases hγ3 with ⟨h, _⟩ | h
        · exact absurd rfl h
        · exact h
      have kn3 : Kn s2 s3 := K3.mono fun c h => h.1 rfl
      have w3 := kn3.wf w2
      have dx3 : ldn s3 (some ⟨s1.nx, 0, none⟩) 2 = some [.slice qa x.2.1.length ca, .slice qb x.2.2.length cb] := by rw [← exy]; exact (A2.kn w2 kn3).ldn (i := 0) (n := 2) (by simp) (by decide)
      refine run1 ?_
      have w3m : Wf (mkRow s3 [.slice qa x.2.1.length ca, .slice qb x.2.2.length cb]) := mkRow_wf w3
      rw [exy] at hone
      refine Wo.app2 rfl rfl rfl rfl rfl rfl rfl rfl rfl w3m (G3.keep w3 mkRow_kn fun _ => id) rfl (cells_at mkRow_sl.at rfl (by decide)) rfl hone rfl (by omega) (by omega) ?_
      intro q4 c4 γ4 s4 G4 K4 hγ4
      have w4 := K4.wf w3m
      have nx1 := k3.kp.le
      have nx2 := kn2.le
      have nx3 := kn3.le
      have nx4 := K4.le
      have nxm : (mkRow s3 [.slice qa x.2.1.length ca, .slice qb x.2.2.length cb]).nx = s3.nx + 1 := rfl
      have hγ4' : s2.nx ≤ γ4 := by
        rcases hγ4 with ⟨_, h⟩ | h <;> omega
      have hγl : ql ≠ none → γl < s2.nx := fun h => G2.gw.ltn w2 h
      have G2' : Gl s s4 ql cl γl D := ((G2.kn kn3).kn mkRow_kn).kpc K4 (fun c h => by rw [h.2]; omega) (fun h1 h2 => by have := hγl h1; rw [h2.2] at this; omega)
      have A4 : At s4 (some ⟨s1.nx, 0, none⟩) [x.1.1, x.1.2] := by
        have h1 : Sl s2 (some ⟨s1.nx, 0, none⟩) [x.1.1, x.1.2] s1.nx := by have := R2.sl (o := 0) (n := 2) (by simp); exact this
        have hlt : s1.nx < s2.nx := (R2.lt w2).2
        exact (((h1.kp w2 kn3 id).kp w3 mkRow_kn id).kp w3m K4 (fun h => by omega)).at
      have la : ldq s4 (qadd (some ⟨s1.nx, 0, none⟩) 0) = some (.slice qa x.2.1.length ca) := by rw [← ea]; exact At.ld A4 (i := 0) (by simp)
      have ba4 : Bs s4 qa x.2.1 := by
        obtain ⟨q', c', e', b', _⟩ := (hk x (List.mem_of_getElem? hx)).1.kpN w G2'.kp
        rw [ea] at e'; injection e' with e'; subst e'; exact b'
      refine run1 ?_
      refine W.dr [(0, .none, 0), (1, .none, 0), (2, .none, 2), (3, .none, 7), (4, .none, 15), (5, .none, 31), (6, .none, 31), (7, .none, 127), (8, .none, 255), (9, .reads, 511), (10, .none, 31), (11, .reads, 1055), (12, .acts, 4095), (13, .none, 8191)] (by kernel_rfl) rfl ?_
      refine run1 ?_
      refine Wd.meet (α := Nat) (fun p => [(0, .slice q l.length c), (3, .slice ql D.length cl), (4, nI i), (6, nI p), (9, .slice q4 (0 + hi' + 1) c4)]) (fun _ => s4) (fun p => p = if ((D.map Prod.snd)[hi']?.any fun z => decide (z.1 = x.2.1)) = true then hi' + 1 else hi') ?_ ?_
      · by_cases hlt : hi' < D.length
        · obtain ⟨y, hy⟩ := at_lt hlt
          have ldD4 : good ql ∧ ∃ q1 c1, ldq s4 (qadd (qadd ql (hi' * 2)) 0) = some (.slice q1 y.2.1.length c1) ∧ Bs s4 q1 y.2.1 ∧ y.2.1.length < 2 ^ 60 := by
            obtain ⟨g, q1, c1, _, _, l1, _, b1, _, n1, _⟩ := G2'.ent.ld G2'.at (i := hi') (by omega)
            rw [(key_snd hy).1] at l1 b1 n1
            exact ⟨g, q1, c1, l1, b1, n1⟩
          obtain ⟨gl, q1, c1, l1, b1, n1⟩ := ldD4
          have hmap : (D.map Prod.snd)[hi']? = some y.2 := by rw [List.getElem?_map, hy]; rfl
          refine run1 ?_
          refine Wd.call (gT rfl hlt) (Xc.call ok21 rfl) rfl ((same_ok b1 ba4 n1 na).mono ?_)
          rintro v s' ⟨rfl, rfl⟩
          refine ⟨Nat.le_refl _, ?_⟩
          by_cases he : y.2.1 = x.2.1
          · refine run1 ?_
            exact meet.n (hi' + 1) (by rw [hmap, if_pos (by simp [he])]) (.cons rfl (.cons rfl (.cons rfl (.cons rfl (.cons rfl .nil))))) rfl
          · refine run1 ?_
            exact meet.n hi' (by rw [hmap, if_neg (by simp [he])]) (.cons rfl (.cons rfl (.cons rfl (.cons rfl (.cons rfl .nil))))) rfl
        · refine run1 ?_
          exact meet.n hi' (by rw [List.getElem?_eq_none (by omega), if_neg (by simp)]) (.cons rfl (.cons rfl (.cons rfl (.cons rfl (.cons rfl .nil))))) rfl
      intro lo' hlo'
      have hlo2 : lo' ≤ D.length ∧ hi' ≤ lo' ∧ lo' ≤ hi' + 1 := by
        rw [hlo']
        split
        · rename_i h
          have : hi' < D.length := by
            rcases Nat.lt_or_ge hi' D.length with h' | h'
            · exact h'
            · rw [List.getElem?_eq_none (by rw [List.length_map]; exact h')] at h; cases h
          omega
        · omega
      have insD : ins (D.map Prod.snd) x.2 = (D.map Prod.snd).take hi' ++ x.2 :: (D.map Prod.snd).drop lo' := by
        rw [hlo']
        refine ins_at hSS (by omega) (fun j hj z hz => ?_) (fun z hz => ?_)
        · rcases m3 with h0 | ⟨y, hy, _, hlt⟩
          · omega
          · rw [List.getElem?_map] at hz
            obtain ⟨z', hz', rfl⟩ := Option.map_eq_some_iff.1 hz
            by_cases hjj : j = hi' - 1
            · subst hjj; rw [hy] at hz'; cases hz'; exact hlt
            · have hp := List.pairwise_iff_getElem.1 hSS j (hi' - 1) (by omega) (by omega) (by omega)
              rw [List.getElem_map, List.getElem_map] at hp
              rw [List.getElem?_eq_getElem (by omega)] at hz' hy
              cases hz'; cases hy
              exact hp.trans hlt
        · rcases m4 with h0 | ⟨y, hy, hlt⟩
          · rw [List.getElem?_eq_none (by omega)] at hz; cases hz
          · rw [List.getElem?_map, hy] at hz; cases hz; exact hlt
      refine run1 ?_
      refine Wo.slLo rfl rfl rfl rfl rfl rfl G2'.gw hlo2.1 (by omega) ?_
      intro q5 c5 A5 _
      rw [cel_drop] at A5
      have dl : (D.drop lo').length = D.length - lo' := List.length_drop
      refine Wo.app2 rfl rfl rfl rfl rfl rfl rfl rfl rfl w4 G4 rfl (cells_at A5 (by rw [cel_length, dl]) (by decide)) (by rw [cel_length, dl]) (cel_one fun y hy => hksD y (List.mem_of_mem_drop hy)) rfl (by omega) (by omega) ?_
      intro q6 c6 γ6 s6 G6 K6 hγ6
      have eD : [] ++ cel (D.take hi') ++ [.slice qa x.2.1.length ca, .slice qb x.2.2.length cb] ++ cel (D.drop lo') = cel (D.take hi' ++ x :: D.drop lo') := by rw [cel_app, cel_cons, ← exy]; simp
      have lD : (D.take hi' ++ x :: D.drop lo').length = 0 + hi' + 1 + (D.length - lo') := by rw [List.length_append, List.length_cons, tl, dl]; omega
      rw [eD, ← lD] at G6
      refine run1 ?_
      refine rnd.n (i + 1, s6, (q6, c6, γ6), D.take hi' ++ x :: D.drop lo') ⟨hi, by show (D.take hi' ++ x :: D.drop lo').length ≤ i + 1; omega, ⟨w, ?_, G6, fun _ => ?_, fun y hy => ?_⟩, ?_, fun y hy => ?_⟩ (by show l.length - (i + 1) < l.length - i; omega) (.cons rfl (.cons (by show some (Value.slice q6 (0 + hi' + 1 + (D.length - lo')) c6) = some (Value.slice q6 (D.take hi' ++ x :: D.drop lo').length c6); rw [lD]) (.cons rfl .nil))) rfl rfl
      · exact G2'.kp.trans (K6.mono fun c h => by rw [h.2]; omega)
      · show s.nx ≤ γ6
        rcases hγ6 with ⟨_, h⟩ | h <;> omega
      · rcases List.mem_append.1 hy with hy | hy
        · exact hksD y (List.mem_of_mem_take hy)
        · rcases List.mem_cons.1 hy with rfl | hy
          · exact hk y (List.mem_of_getElem? hx)
          · exact hksD y (List.mem_of_mem_drop hy)
      · show (D.take hi' ++ x :: D.drop lo').map Prod.snd = canon ((l.take (i + 1)).map Prod.snd)
        rw [(take_at hx).2.1, show (l.take i ++ [x]).map Prod.snd = (l.take i).map Prod.snd ++ [x.2] by rw [List.map_append]; rfl, canon_add, ← k4, insD, List.map_append, List.map_cons, List.map_take, List.map_drop]
      · rcases List.mem_append.1 hy with hy | hy
        · exact k5 y (List.mem_of_mem_take hy)
        · rcases List.mem_cons.1 hy with rfl | hy
          · exact List.mem_of_getElem? hx
          · exact k5 y (List.mem_of_mem_drop hy)
  · refine run1 ?_
    have hie : i = l.length := by omega
    rw [hie, List.take_length] at k4
    exact Lv.ret rfl ⟨ql, cl, γl, D, rfl, k3, k4, k5, by omega⟩
theorem rsort14_ok {l : List El} (w : Wf s) (ha : At s q (cel l)) (hk : ∀ x ∈ l, BsV s x.1.1 x.2.1 ∧ BsV s x.1.2 x.2.2) (hl : l.length < 2 ^ 40) :
    Cl B (.call 6 [.slice q l.length c]) s fun v s' => ∃ q' c' γ D, v = .slice q' D.length c' ∧ Gl s s' q' c' γ D ∧ D.map Prod.snd = canon (l.map Prod.snd) ∧ (∀ x ∈ D, x ∈ l) ∧ D.length ≤ l.length := by
  refine Cl.enter Tryz.f6 fn6 rfl rfl rfl ?_
  refine run1 ?_
  refine Wo.call rfl (Xc.call ok20 rfl) rfl ((rsort_ok w ha hk hl).mono ?_)
  rintro v s' ⟨q', c', γ, D, rfl, h⟩
  refine run1 ?_
  exact Lv.ret rfl ⟨q', c', γ, D, rfl, h⟩
end Go.Proofs.YtdibpdpcbnijeaaGreatDoor
