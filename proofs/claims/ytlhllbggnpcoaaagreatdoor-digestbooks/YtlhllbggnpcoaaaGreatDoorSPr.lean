import Derived.Test.YtlhllbggnpcoaaaGreatDoorPpr
import Derived.Test.YtlhllbggnpcoaaaGreatDoorRLs
/-
  cairnlaw04.samePairs, cairnlaw04.strings.
-/
namespace Go.Proofs.YtlhllbggnpcoaaaGreatDoor
open Go.RowKit Go.Sort Go.Maps

theorem flatP_get : ∀ {Q : List PR} (i : Nat) (q : PR) (_ : Q[i]? = some q) (j : Nat) (_ : j < 2), (Q.flatMap PR.enc)[i * 2 + j]? = (q.enc)[j]?
  | p :: Q, 0, q, h, j, hj => by
    have e : p = q := by simpa using h
    subst e
    rw [List.flatMap_cons, List.getElem?_append_left (by simp [PR.enc]; omega)]
    simp
  | p :: Q, i + 1, q, h, j, hj => by
    have e : Q[i]? = some q := by simpa using h
    rw [List.flatMap_cons, List.getElem?_append_right (by simp [PR.enc]; omega), show (i + 1) * 2 + j - (p.enc).length = i * 2 + j by simp [PR.enc]; omega]
    exact flatP_get i q e j hj
theorem add_flat (g i : Nat) : (⟨g, 0, none⟩ : Addr).add i = ⟨g, i, none⟩ := by unfold Addr.add; split <;> simp_all
/-- one of the pairs, as it lies -/
theorem POut.ix {w : World} {B g n c : Nat} {Q : List PR} (h : POut w B (.slice (some ⟨g, 0, none⟩) n c) Q) (i : Nat) (q : PR) (hi : Q[i]? = some q) :
    ∃ pa ga ca pb gb cb, w.cell? ⟨g, i * 2, none⟩ = some (.slice pa q.a.length ca) ∧ Vw w pa ga 0 q.a ∧ w.cell? ⟨g, i * 2 + 1, none⟩ = some (.slice pb q.b.length cb) ∧ Vw w pb gb 0 q.b ∧ q.ua = .slice pa q.a.length ca ∧ q.ub = .slice pb q.b.length cb := by
  have hm : q ∈ Q := List.mem_of_getElem? hi
  obtain ⟨pa, ga, ca, ea, _, va, _⟩ := (h.ok q hm).sa.view
  obtain ⟨pb, gb, cb, eb, _, vb, _⟩ := (h.ok q hm).sb.view
  have c0 := h.own.cells (g := g) rfl (i * 2 + 0) q.ua ((flatP_get i q hi 0 (by decide)).trans rfl)
  have c1 := h.own.cells (g := g) rfl (i * 2 + 1) q.ub ((flatP_get i q hi 1 (by decide)).trans rfl)
  rw [add_flat] at c0 c1
  rw [ea] at c0
  rw [eb] at c1
  exact ⟨pa, ga, ca, pb, gb, cb, c0, va, c1, vb, ea, eb⟩
theorem FOut.ix {w : World} {B g n c : Nat} {Q : List FG} (h : FOut w B (.slice (some ⟨g, 0, none⟩) n c) Q) (i : Nat) (q : FG) (hi : Q[i]? = some q) :
    ∃ pa ga ca, w.cell? ⟨g, i * 33, none⟩ = some (.slice pa q.s.length ca) ∧ Vw w pa ga 0 q.s ∧ w.rangeAt g (i * 33 + 1) (bv q.k) ∧ q.u = .slice pa q.s.length ca ∧ IsH q.k := by
  obtain ⟨hl, e⟩ := List.getElem?_eq_some_iff.1 hi
  have hm : q ∈ Q := List.mem_of_getElem? hi
  have hk : ∀ q ∈ Q, IsH q.k := fun q hq => (h.ok q hq).key
  obtain ⟨pa, ga, ca, ea, _, va, _⟩ := (h.ok q hm).str.view
  have ce : ∀ j u, (q.enc)[j]? = some u → w.cell? ⟨g, i * 33 + j, none⟩ = some u := fun j u hu => by
    have hj : j < 33 := by
      obtain ⟨hl, _⟩ := List.getElem?_eq_some_iff.1 hu
      rw [encF_len (hk q hm)] at hl
      exact hl
    have hc := h.own.cells (g := g) rfl (i * 33 + j) u ((flatF_get hk i hl j hj).trans (by rw [e]; exact hu))
    rw [add_flat] at hc
    exact hc
  refine ⟨pa, ga, ca, ?_, va, fun j u hu => ?_, ea, hk q hm⟩
  · have := ce 0 q.u rfl
    rw [Nat.add_zero] at this
    rw [this, ea]
  · have := ce (j + 1) u (by unfold FG.enc; rw [List.getElem?_cons_succ]; exact hu)
    rw [show i * 33 + 1 + j = i * 33 + (j + 1) by omega]
    exact this
theorem POut.form {w : World} {B : Nat} {v : Value} {Q : List PR} (h : POut w B v Q) : ∃ a c, v = .slice a Q.length c ∧ (0 < Q.length → ∃ g, a = some ⟨g, 0, none⟩) := by
  rcases h.own.2 with ⟨rfl, h0⟩ | ⟨g, cap, cur, rfl, _⟩
  · exact ⟨none, 0, by rw [h0], fun z => by omega⟩
  · exact ⟨_, _, rfl, fun _ => ⟨g, rfl⟩⟩
theorem FOut.form {w : World} {B : Nat} {v : Value} {Q : List FG} (h : FOut w B v Q) : ∃ a c, v = .slice a Q.length c ∧ (0 < Q.length → ∃ g, a = some ⟨g, 0, none⟩) := by
  rcases h.own.2 with ⟨rfl, h0⟩ | ⟨g, cap, cur, rfl, _⟩
  · exact ⟨none, 0, by rw [h0], fun z => by omega⟩
  · exact ⟨_, _, rfl, fun _ => ⟨g, rfl⟩⟩

set_option maxRecDepth 100000 in
set_option maxHeartbeats 3200000 in
theorem samePairs_any (w : World) (B1 B2 : Nat) (v1 v2 : Value) (Q1 Q2 : List PR) (h1 : POut w B1 v1 Q1) (h2 : POut w B2 v2 Q2) (he : Q1.map PR.ab = Q2.map PR.ab) (hn : Q1.length ≤ 549755813888) :
    Calls Tryz.prog 44 #[v1, v2] w fun e w' => e = .returned (.bool true) ∧ ∃ q, w' = w.drewN q := by
  have hl : Q1.length = Q2.length := by have := congrArg List.length he; simpa using this
  obtain ⟨a1, c1, e1, f1⟩ := h1.form
  obtain ⟨a2, c2, e2, f2⟩ := h2.form
  subst e1
  subst e2
  have HP : Hid (POut w B1 (.slice a1 Q1.length c1) Q1 ∧ POut w B2 (.slice a2 Q2.length c2) Q2 ∧ Q1.map PR.ab = Q2.map PR.ab ∧ (0 < Q1.length → ∃ g, a1 = some ⟨g, 0, none⟩) ∧ (0 < Q2.length → ∃ g, a2 = some ⟨g, 0, none⟩) ∧ Q1.length = Q2.length) := ⟨h1, h2, he, f1, f2, hl⟩
  rw [← hl]
  rw [← hl] at HP
  obtain ⟨n, en⟩ : ∃ n, n = Q1.length := ⟨_, rfl⟩
  have HEN : Hid (n = Q1.length) := en
  rw [← en] at hn HP ⊢
  clear h1 h2 he f1 f2 hl en
  go_enter Tryz.func44, Tryz.ntmps44
  go_wp2_with fail
  go_loopg [5] n (fun gg ii wr => ∃ i : Nat, i ≤ n ∧ gg = n - i ∧ ii = .int .i64 i ∧ ∃ q, wr = w.drewN q)
  case atStart => exact ⟨0, Nat.zero_le _, rfl, rfl, 0, rfl⟩
  case round =>
    obtain ⟨i, hi, rfl, rfl, qq, hwr⟩ := hrel
    by_cases hin : i < n
    · have i1 : (i : Int) < (n : Int) := by omega
      obtain ⟨g1, rfl⟩ := HP.out.2.2.2.1 (by omega)
      obtain ⟨g2, rfl⟩ := HP.out.2.2.2.2.1 (by omega)
      have hl1 : n = Q1.length := HEN.out
      obtain ⟨p, ep⟩ : ∃ p, Q1[i]? = some p := ⟨_, List.getElem?_eq_getElem (by omega)⟩
      obtain ⟨r, er⟩ : ∃ r, Q2[i]? = some r := by
        have := congrArg (fun l => l[i]?) HP.out.2.2.1
        simp only [List.getElem?_map, ep, Option.map_some] at this
        cases h : Q2[i]? with
        | none => rw [h] at this; cases this
        | some r => exact ⟨r, rfl⟩
      have hab : p.ab = r.ab := by
        have := congrArg (fun l => l[i]?) HP.out.2.2.1
        simp only [List.getElem?_map, ep, er, Option.map_some] at this
        exact Option.some.inj this
      obtain ⟨pa, ga, ca, pb, gb, cb, x1, x2, x3, x4, _⟩ := HP.out.1.ix i p ep
      obtain ⟨ra, ha, da, rb, hb, db, y1, y2, y3, y4, _⟩ := HP.out.2.1.ix i r er
      unfold PR.ab at hab
      injection hab with ea eb
      rw [← ea] at y1 y2
      rw [← eb] at y3 y4
      have HC : Hid (∀ v, (∃ q, v = wr.drewN q) → v.cell? ⟨g1, i * 2, none⟩ = some (.slice pa p.a.length ca) ∧ v.cell? ⟨g1, i * 2 + 1, none⟩ = some (.slice pb p.b.length cb) ∧ v.cell? ⟨g2, i * 2, none⟩ = some (.slice ra p.a.length da) ∧ v.cell? ⟨g2, i * 2 + 1, none⟩ = some (.slice rb p.b.length db)) := fun v hv => by
        obtain ⟨q, rfl⟩ := hv
        subst hwr
        exact ⟨x1, x3, y1, y3⟩
      have HV : Hid (∀ v, (∃ q, v = wr.drewN q) → Vw v pa ga 0 p.a ∧ Vw v pb gb 0 p.b ∧ Vw v ra ha 0 p.a ∧ Vw v rb hb 0 p.b) := fun v hv => by
        obtain ⟨q, rfl⟩ := hv
        subst hwr
        exact ⟨(x2.drewN qq).drewN q, (x4.drewN qq).drewN q, (y2.drewN qq).drewN q, (y4.drewN qq).drewN q⟩
      have HW : Hid (wr = w.drewN qq) := hwr
      generalize p.a = sa at HC HV
      generalize p.b = sb at HC HV
      clear x1 x2 x3 x4 y1 y2 y3 y4 ea eb ep er hl1 hwr
      go_wp2_with fail
      have s0 : (fun v => ∃ q, v = wr.drewN q) wr.drew := ⟨1, rfl⟩
      refine wp_region_held_drew (S := fun v => ∃ q, v = wr.drewN q) (by kernel_rfl) s0 ?_
      intro hS
      clear s0
      change wpAnyH _ _ _ _ _ 26 _ _ _
      generalize wr.drew = wd at hS ⊢
      refine wpAnyH_take (i := 0) (v := (.slice (some ⟨g1, 0, none⟩) n c1)) (by simp only [List.getElem?_toArray, List.getElem?_cons_zero]; rfl) (by kernel_rfl) (by kernel_rfl) (by kernel_rfl) (by exact fun _ _ _ h => h) (y_move (by kernel_rfl) _ rfl _ rfl) hS ?_
      try simp only [Act.put, List.setIfInBounds_toArray, List.set_cons_zero, List.set_cons_succ]
      refine wpAnyH_take (i := 1) (v := (.int .i64 (i : Nat))) (by simp only [List.getElem?_toArray, List.getElem?_cons_zero, List.getElem?_cons_succ]; rfl) (by kernel_rfl) (by kernel_rfl) (by kernel_rfl) (by exact fun _ _ _ h => h) (y_move (by kernel_rfl) _ rfl _ rfl) hS ?_
      try simp only [Act.put, List.setIfInBounds_toArray, List.set_cons_zero, List.set_cons_succ]
      refine wpAnyH_take (i := 2) (v := (.pointer (some ⟨g1, i * 2, none⟩))) (by simp only [List.getElem?_toArray, List.getElem?_cons_zero, List.getElem?_cons_succ]; rfl) (by kernel_rfl) (by kernel_rfl) (by kernel_rfl) (by exact fun _ _ _ h => h) (y_indexP (by kernel_rfl) _ _ rfl g1 n c1 i rfl rfl hin) hS ?_
      try simp only [Act.put, List.setIfInBounds_toArray, List.set_cons_zero, List.set_cons_succ]
      refine wpAnyH_take (i := 3) (v := (.pointer (some ⟨g1, i * 2 + 0, none⟩))) (by simp only [List.getElem?_toArray, List.getElem?_cons_zero, List.getElem?_cons_succ]; rfl) (by kernel_rfl) (by kernel_rfl) (by kernel_rfl) (by exact fun _ _ _ h => h) (y_fieldP (by kernel_rfl) _ 0 rfl g1 (i * 2) rfl (by decide)) hS ?_
      try simp only [Act.put, List.setIfInBounds_toArray, List.set_cons_zero, List.set_cons_succ]
      refine wpAnyH_take (i := 4) (v := (.slice pa sa.length ca)) (by simp only [List.getElem?_toArray, List.getElem?_cons_zero, List.getElem?_cons_succ]; rfl) (by kernel_rfl) (by kernel_rfl) (by kernel_rfl) (by exact fun _ _ _ h => h) (y_loadB (by kernel_rfl) _ rfl g1 (i * 2 + 0) rfl _ (fun v hs => (HC.out v hs).1)) hS ?_
      try simp only [Act.put, List.setIfInBounds_toArray, List.set_cons_zero, List.set_cons_succ]
      refine wpAnyH_take (i := 5) (v := (.slice (some ⟨g2, 0, none⟩) n c2)) (by simp only [List.getElem?_toArray, List.getElem?_cons_zero, List.getElem?_cons_succ]; rfl) (by kernel_rfl) (by kernel_rfl) (by kernel_rfl) (by exact fun _ _ _ h => h) (y_move (by kernel_rfl) _ rfl _ rfl) hS ?_
      try simp only [Act.put, List.setIfInBounds_toArray, List.set_cons_zero, List.set_cons_succ]
      refine wpAnyH_take (i := 6) (v := (.int .i64 (i : Nat))) (by simp only [List.getElem?_toArray, List.getElem?_cons_zero, List.getElem?_cons_succ]; rfl) (by kernel_rfl) (by kernel_rfl) (by kernel_rfl) (by exact fun _ _ _ h => h) (y_move (by kernel_rfl) _ rfl _ rfl) hS ?_
      try simp only [Act.put, List.setIfInBounds_toArray, List.set_cons_zero, List.set_cons_succ]
      refine wpAnyH_take (i := 7) (v := (.pointer (some ⟨g2, i * 2, none⟩))) (by simp only [List.getElem?_toArray, List.getElem?_cons_zero, List.getElem?_cons_succ]; rfl) (by kernel_rfl) (by kernel_rfl) (by kernel_rfl) (by exact fun _ _ _ h => h) (y_indexP (by kernel_rfl) _ _ rfl g2 n c2 i rfl rfl hin) hS ?_
      try simp only [Act.put, List.setIfInBounds_toArray, List.set_cons_zero, List.set_cons_succ]
      refine wpAnyH_take (i := 8) (v := (.pointer (some ⟨g2, i * 2 + 0, none⟩))) (by simp only [List.getElem?_toArray, List.getElem?_cons_zero, List.getElem?_cons_succ]; rfl) (by kernel_rfl) (by kernel_rfl) (by kernel_rfl) (by exact fun _ _ _ h => h) (y_fieldP (by kernel_rfl) _ 0 rfl g2 (i * 2) rfl (by decide)) hS ?_
      try simp only [Act.put, List.setIfInBounds_toArray, List.set_cons_zero, List.set_cons_succ]
      refine wpAnyH_take (i := 9) (v := (.slice ra sa.length da)) (by simp only [List.getElem?_toArray, List.getElem?_cons_zero, List.getElem?_cons_succ]; rfl) (by kernel_rfl) (by kernel_rfl) (by kernel_rfl) (by exact fun _ _ _ h => h) (y_loadB (by kernel_rfl) _ rfl g2 (i * 2 + 0) rfl _ (fun v hs => (HC.out v hs).2.2.1)) hS ?_
      try simp only [Act.put, List.setIfInBounds_toArray, List.set_cons_zero, List.set_cons_succ]
      refine wpAnyH_ready (rs := [10]) (by kernel_rfl) (by simp) ?_
      refine AllReadyH.cons (by simp only [List.getElem?_toArray, List.getElem?_cons_zero, List.getElem?_cons_succ]; rfl) (fun K hK => ?_) AllReadyH.nil
      have sm := rsame_any _ pa ra _ _ ca _ _ da sa sa (HV.out _ hS).1 (HV.out _ hS).2.2.1
      rw [decide_eq_true rfl] at sm
      refine r_call2 38 _ _ #[26, 26] rfl (by kernel_rfl) (.slice pa sa.length ca) (.slice ra sa.length da) rfl rfl (enters_of Tryz.func38 (by kernel_rfl) rfl) (sm.mono ?_)
      rintro _ w10 ⟨rfl, q10, hw10⟩
      refine ⟨_, rfl, ?_⟩
      have hS2 : ∃ q, w10 = wr.drewN q := by
        obtain ⟨q, hq⟩ := hS
        exact ⟨q + q10, by rw [hw10, hq]; exact World.drewN_drewN _ _ _⟩
      clear hw10 sm
      refine hK.out _ _ hS2 (fun hS => ?_)
      clear hK K hS2
      try simp only [Act.put, List.setIfInBounds_toArray, List.set_cons_zero, List.set_cons_succ]
      refine wpAnyH_take (i := 11) (v := (.bool (!true))) (by simp only [List.getElem?_toArray, List.getElem?_cons_zero, List.getElem?_cons_succ]; rfl) (by kernel_rfl) (by kernel_rfl) (by kernel_rfl) (by exact fun _ _ _ h => h) (y_not (by kernel_rfl) _ rfl true rfl) hS ?_
      try simp only [Act.put, List.setIfInBounds_toArray, List.set_cons_zero, List.set_cons_succ]
      refine wpAnyH_take (i := 12) (v := (.bool false)) (by simp only [List.getElem?_toArray, List.getElem?_cons_zero, List.getElem?_cons_succ]; rfl) (by kernel_rfl) (by kernel_rfl) (by kernel_rfl) (by exact fun _ _ _ h => h) (y_move (by kernel_rfl) _ rfl _ rfl) hS ?_
      try simp only [Act.put, List.setIfInBounds_toArray, List.set_cons_zero, List.set_cons_succ]
      refine wpAnyH_take (i := 13) (v := (.slice (some ⟨g1, 0, none⟩) n c1)) (by simp only [List.getElem?_toArray, List.getElem?_cons_zero, List.getElem?_cons_succ]; rfl) (by kernel_rfl) (by kernel_rfl) (by kernel_rfl) (by exact fun _ _ _ h => h) (y_move (by kernel_rfl) _ rfl _ rfl) hS ?_
      try simp only [Act.put, List.setIfInBounds_toArray, List.set_cons_zero, List.set_cons_succ]
      refine wpAnyH_take (i := 14) (v := (.int .i64 (i : Nat))) (by simp only [List.getElem?_toArray, List.getElem?_cons_zero, List.getElem?_cons_succ]; rfl) (by kernel_rfl) (by kernel_rfl) (by kernel_rfl) (by exact fun _ _ _ h => h) (y_move (by kernel_rfl) _ rfl _ rfl) hS ?_
      try simp only [Act.put, List.setIfInBounds_toArray, List.set_cons_zero, List.set_cons_succ]
      refine wpAnyH_take (i := 15) (v := (.pointer (some ⟨g1, i * 2, none⟩))) (by simp only [List.getElem?_toArray, List.getElem?_cons_zero, List.getElem?_cons_succ]; rfl) (by kernel_rfl) (by kernel_rfl) (by kernel_rfl) (by exact fun _ _ _ h => h) (y_indexP (by kernel_rfl) _ _ rfl g1 n c1 i rfl rfl hin) hS ?_
      try simp only [Act.put, List.setIfInBounds_toArray, List.set_cons_zero, List.set_cons_succ]
      refine wpAnyH_take (i := 16) (v := (.pointer (some ⟨g1, i * 2 + 1, none⟩))) (by simp only [List.getElem?_toArray, List.getElem?_cons_zero, List.getElem?_cons_succ]; rfl) (by kernel_rfl) (by kernel_rfl) (by kernel_rfl) (by exact fun _ _ _ h => h) (y_fieldP (by kernel_rfl) _ 1 rfl g1 (i * 2) rfl (by decide)) hS ?_
      try simp only [Act.put, List.setIfInBounds_toArray, List.set_cons_zero, List.set_cons_succ]
      refine wpAnyH_take (i := 17) (v := (.slice pb sb.length cb)) (by simp only [List.getElem?_toArray, List.getElem?_cons_zero, List.getElem?_cons_succ]; rfl) (by kernel_rfl) (by kernel_rfl) (by kernel_rfl) (by exact fun _ _ _ h => h) (y_loadB (by kernel_rfl) _ rfl g1 (i * 2 + 1) rfl _ (fun v hs => (HC.out v hs).2.1)) hS ?_
      try simp only [Act.put, List.setIfInBounds_toArray, List.set_cons_zero, List.set_cons_succ]
      refine wpAnyH_take (i := 18) (v := (.slice (some ⟨g2, 0, none⟩) n c2)) (by simp only [List.getElem?_toArray, List.getElem?_cons_zero, List.getElem?_cons_succ]; rfl) (by kernel_rfl) (by kernel_rfl) (by kernel_rfl) (by exact fun _ _ _ h => h) (y_move (by kernel_rfl) _ rfl _ rfl) hS ?_
      try simp only [Act.put, List.setIfInBounds_toArray, List.set_cons_zero, List.set_cons_succ]
      refine wpAnyH_take (i := 19) (v := (.int .i64 (i : Nat))) (by simp only [List.getElem?_toArray, List.getElem?_cons_zero, List.getElem?_cons_succ]; rfl) (by kernel_rfl) (by kernel_rfl) (by kernel_rfl) (by exact fun _ _ _ h => h) (y_move (by kernel_rfl) _ rfl _ rfl) hS ?_
      try simp only [Act.put, List.setIfInBounds_toArray, List.set_cons_zero, List.set_cons_succ]
      refine wpAnyH_take (i := 20) (v := (.pointer (some ⟨g2, i * 2, none⟩))) (by simp only [List.getElem?_toArray, List.getElem?_cons_zero, List.getElem?_cons_succ]; rfl) (by kernel_rfl) (by kernel_rfl) (by kernel_rfl) (by exact fun _ _ _ h => h) (y_indexP (by kernel_rfl) _ _ rfl g2 n c2 i rfl rfl hin) hS ?_
      try simp only [Act.put, List.setIfInBounds_toArray, List.set_cons_zero, List.set_cons_succ]
      refine wpAnyH_take (i := 21) (v := (.pointer (some ⟨g2, i * 2 + 1, none⟩))) (by simp only [List.getElem?_toArray, List.getElem?_cons_zero, List.getElem?_cons_succ]; rfl) (by kernel_rfl) (by kernel_rfl) (by kernel_rfl) (by exact fun _ _ _ h => h) (y_fieldP (by kernel_rfl) _ 1 rfl g2 (i * 2) rfl (by decide)) hS ?_
      try simp only [Act.put, List.setIfInBounds_toArray, List.set_cons_zero, List.set_cons_succ]
      refine wpAnyH_take (i := 22) (v := (.slice rb sb.length db)) (by simp only [List.getElem?_toArray, List.getElem?_cons_zero, List.getElem?_cons_succ]; rfl) (by kernel_rfl) (by kernel_rfl) (by kernel_rfl) (by exact fun _ _ _ h => h) (y_loadB (by kernel_rfl) _ rfl g2 (i * 2 + 1) rfl _ (fun v hs => (HC.out v hs).2.2.2)) hS ?_
      try simp only [Act.put, List.setIfInBounds_toArray, List.set_cons_zero, List.set_cons_succ]
      refine wpAnyH_ready (rs := [23]) (by kernel_rfl) (by simp) ?_
      refine AllReadyH.cons (by simp only [List.getElem?_toArray, List.getElem?_cons_zero, List.getElem?_cons_succ]; rfl) (fun K hK => ?_) AllReadyH.nil
      have sm := rsame_any _ pb rb _ _ cb _ _ db sb sb (HV.out _ hS).2.1 (HV.out _ hS).2.2.2
      rw [decide_eq_true rfl] at sm
      refine r_call2 38 _ _ #[26, 26] rfl (by kernel_rfl) (.slice pb sb.length cb) (.slice rb sb.length db) rfl rfl (enters_of Tryz.func38 (by kernel_rfl) rfl) (sm.mono ?_)
      rintro _ w23 ⟨rfl, q23, hw23⟩
      refine ⟨_, rfl, ?_⟩
      have hS2 : ∃ q, w23 = wr.drewN q := by
        obtain ⟨q, hq⟩ := hS
        exact ⟨q + q23, by rw [hw23, hq]; exact World.drewN_drewN _ _ _⟩
      clear hw23 sm
      refine hK.out _ _ hS2 (fun hS => ?_)
      clear hK K hS2
      try simp only [Act.put, List.setIfInBounds_toArray, List.set_cons_zero, List.set_cons_succ]
      refine wpAnyH_take (i := 24) (v := (.bool (!true))) (by simp only [List.getElem?_toArray, List.getElem?_cons_zero, List.getElem?_cons_succ]; rfl) (by kernel_rfl) (by kernel_rfl) (by kernel_rfl) (by exact fun _ _ _ h => h) (y_not (by kernel_rfl) _ rfl true rfl) hS ?_
      try simp only [Act.put, List.setIfInBounds_toArray, List.set_cons_zero, List.set_cons_succ]
      refine wpAnyH_take (i := 25) (v := (.bool false)) (by simp only [List.getElem?_toArray, List.getElem?_cons_zero, List.getElem?_cons_succ]; rfl) (by kernel_rfl) (by kernel_rfl) (by kernel_rfl) (by exact fun _ _ _ h => h) (y_pick_f (by kernel_rfl) _ _ _ rfl _ rfl rfl) hS ?_
      try simp only [Act.put, List.setIfInBounds_toArray, List.set_cons_zero, List.set_cons_succ]
      refine wpAnyH_done (by kernel_rfl) ?_ _
      have HW2 : Hid (∃ q, w23 = w.drewN q) := by
        obtain ⟨q, hq⟩ := hS
        exact ⟨qq + q, by rw [hq, HW.out]; exact World.drewN_drewN _ _ _⟩
      clear hS HC HV HW
      go_wp2_with fail
      go_roundg (n - (i + 1))
      case measure => omega
      case rel => exact ⟨i + 1, hin, rfl, by go_num, HW2.out⟩
    · have i1 : ¬ ((i : Int) < (n : Int)) := by omega
      go_wp2_with fail
      go_ret
      exact ⟨rfl, qq, rfl⟩

/-- all strings of two lists of pairs and one of forgeries -/
def strs (c t : List PR) (f : List FG) : List Value := c.flatMap PR.enc ++ t.flatMap PR.enc ++ f.map FG.u
theorem pairs_len (Q : List PR) : (Q.flatMap PR.enc).length = 2 * Q.length := by
  induction Q with
  | nil => rfl
  | cons q Q ih => rw [List.flatMap_cons, List.length_append, ih]; simp [PR.enc]; omega
theorem take_pair {Q : List PR} {i : Nat} {q : PR} (h : Q[i]? = some q) : (Q.take (i + 1)).flatMap PR.enc = (Q.take i).flatMap PR.enc ++ [q.ua, q.ub] := by
  rw [List.take_add_one, h, List.flatMap_append]
  rfl

set_option maxRecDepth 100000 in
set_option maxHeartbeats 3200000 in
theorem strings_any (w : World) (Bc Bt Bf : Nat) (vc vt vf : Value) (Qc Qt : List PR) (Qf : List FG) (hc : POut w Bc vc Qc) (ht : POut w Bt vt Qt) (hf : FOut w Bf vf Qf) (nc : Qc.length ≤ 549755813888) (nt : Qt.length ≤ 549755813888) (nf : Qf.length ≤ 549755813888) :
    Calls Tryz.prog 48 #[vc, vt, vf] w fun e w' => ∃ v, e = .returned v ∧ w'.ownsRow w.heap.size 26 1 v (strs Qc Qt Qf).length (strs Qc Qt Qf) ∧ Below w.heap.size w w' := by
  obtain ⟨a1, c1, e1, f1⟩ := hc.form
  obtain ⟨a2, c2, e2, f2⟩ := ht.form
  obtain ⟨a3, c3, e3, f3⟩ := hf.form
  subst e1
  subst e2
  subst e3
  have HC : Hid (POut w Bc (.slice a1 Qc.length c1) Qc ∧ (0 < Qc.length → ∃ g, a1 = some ⟨g, 0, none⟩)) := ⟨hc, f1⟩
  have HT : Hid (POut w Bt (.slice a2 Qt.length c2) Qt ∧ (0 < Qt.length → ∃ g, a2 = some ⟨g, 0, none⟩)) := ⟨ht, f2⟩
  have HF : Hid (FOut w Bf (.slice a3 Qf.length c3) Qf ∧ (0 < Qf.length → ∃ g, a3 = some ⟨g, 0, none⟩)) := ⟨hf, f3⟩
  clear hc ht hf f1 f2 f3
  obtain ⟨i0, hi0, hz0, hz1, hz2⟩ := info_parts infoB
  have HI : Hid (Tryz.prog.info? 26 = some i0 ∧ i0.zero = some nilS ∧ i0.size = 1 ∧ i0.bytes = 24) := ⟨hi0, hz0, hz1, hz2⟩
  clear hi0 hz0 hz1 hz2
  go_enter Tryz.func48, Tryz.ntmps48
  go_wp2_with fail
  go_loopg [7, 8] Qc.length (fun gg v ii wr => ∃ i : Nat, i ≤ Qc.length ∧ gg = Qc.length - i ∧ ii = .int .i64 i ∧ wr.ownsRow w.heap.size 26 1 v (2 * i) ((Qc.take i).flatMap PR.enc) ∧ Below w.heap.size w wr)
  case atStart => exact ⟨0, Nat.zero_le _, rfl, rfl, by simpa using World.ownsRow_nil w w.heap.size 26 1, Below.refl _ _⟩
  case round =>
    obtain ⟨i, hi, rfl, rfl, own, hb⟩ := hrel
    have HA : Hid (wr.ownsRow w.heap.size 26 1 u7 (2 * i) ((Qc.take i).flatMap PR.enc) ∧ Below w.heap.size w wr) := ⟨own, hb⟩
    clear own hb
    by_cases hiq : i < Qc.length
    · have i1 : (i : Int) < (Qc.length : Int) := by omega
      obtain ⟨g, rfl⟩ := HC.out.2 (by omega)
      obtain ⟨p, ep⟩ : ∃ p, Qc[i]? = some p := ⟨_, List.getElem?_eq_getElem (by omega)⟩
      obtain ⟨pa, ga, ca, pb, gb, cb, x1, _, x3, _, ea, eb⟩ := HC.out.1.ix i p ep
      have HCE : Hid (∀ v, Turn (fun i => u7.ownBlock = some i) wr v → v.cell? ⟨g, i * 2, none⟩ = some (.slice pa p.a.length ca) ∧ v.cell? ⟨g, i * 2 + 1, none⟩ = some (.slice pb p.b.length cb)) := fun v hv => by
        obtain ⟨cur, hc⟩ := own_block HC.out.1.own (g := g) rfl
        have lg : g < w.heap.size := (Array.getElem?_eq_some_iff.1 hc).1
        have hc' := (HA.out.2.block g lg).trans hc
        have ne := own_ne_cells HA.out.1 hc' (by decide)
        have lg' : g < wr.heap.size := (Array.getElem?_eq_some_iff.1 hc').1
        exact ⟨((hv.cell (q := ⟨g, i * 2, none⟩) lg' ne).trans (HA.out.2.cell (p := ⟨g, i * 2, none⟩) lg)).trans x1, ((hv.cell (q := ⟨g, i * 2 + 1, none⟩) lg' ne).trans (HA.out.2.cell (p := ⟨g, i * 2 + 1, none⟩) lg)).trans x3⟩
      have HE : Hid (Qc[i]? = some p ∧ p.ua = .slice pa p.a.length ca ∧ p.ub = .slice pb p.b.length cb) := ⟨ep, ea, eb⟩
      obtain ⟨na, hna⟩ : ∃ na, na = p.a.length := ⟨_, rfl⟩
      obtain ⟨nb, hnb⟩ : ∃ nb, nb = p.b.length := ⟨_, rfl⟩
      rw [← hna, ← hnb] at HCE HE
      clear x1 x3 ep ea eb hna hnb
      go_wp2_with fail
      have bd : Below wr.heap.size wr wr.drew := (Turn.drew (F := fun _ => False) wr).below (fun _ f => f.elim) (Nat.le_refl _)
      have s0 : (fun v => Turn (fun i => u7.ownBlock = some i) wr v) wr.drew := Turn.drew wr
      have HBD : Hid (Below wr.heap.size wr wr.drew) := bd
      refine wp_region_held_drew (S := fun v => Turn (fun i => u7.ownBlock = some i) wr v) (by kernel_rfl) s0 ?_
      intro hS
      clear s0 bd
      change wpAnyH _ _ _ _ _ 14 _ _ _
      generalize wr.drew = wd at hS HBD ⊢
      refine wpAnyH_take (i := 0) (v := u7) (by simp only [List.getElem?_toArray, List.getElem?_cons_zero]; rfl) (by kernel_rfl) (by kernel_rfl) (by kernel_rfl) (by exact fun _ _ _ h => h) (y_move (by kernel_rfl) _ rfl _ rfl) hS ?_
      try simp only [Act.put, List.setIfInBounds_toArray, List.set_cons_zero, List.set_cons_succ]
      refine wpAnyH_take (i := 1) (v := (.slice (some ⟨g, 0, none⟩) Qc.length c1)) (by simp only [List.getElem?_toArray, List.getElem?_cons_zero, List.getElem?_cons_succ]; rfl) (by kernel_rfl) (by kernel_rfl) (by kernel_rfl) (by exact fun _ _ _ h => h) (y_move (by kernel_rfl) _ rfl _ rfl) hS ?_
      try simp only [Act.put, List.setIfInBounds_toArray, List.set_cons_zero, List.set_cons_succ]
      refine wpAnyH_take (i := 2) (v := (.int .i64 (i : Nat))) (by simp only [List.getElem?_toArray, List.getElem?_cons_zero, List.getElem?_cons_succ]; rfl) (by kernel_rfl) (by kernel_rfl) (by kernel_rfl) (by exact fun _ _ _ h => h) (y_move (by kernel_rfl) _ rfl _ rfl) hS ?_
      try simp only [Act.put, List.setIfInBounds_toArray, List.set_cons_zero, List.set_cons_succ]
      refine wpAnyH_take (i := 3) (v := (.pointer (some ⟨g, i * 2, none⟩))) (by simp only [List.getElem?_toArray, List.getElem?_cons_zero, List.getElem?_cons_succ]; rfl) (by kernel_rfl) (by kernel_rfl) (by kernel_rfl) (by exact fun _ _ _ h => h) (y_indexP (by kernel_rfl) _ _ rfl g Qc.length c1 i rfl rfl hiq) hS ?_
      try simp only [Act.put, List.setIfInBounds_toArray, List.set_cons_zero, List.set_cons_succ]
      refine wpAnyH_take (i := 4) (v := (.pointer (some ⟨g, i * 2 + 0, none⟩))) (by simp only [List.getElem?_toArray, List.getElem?_cons_zero, List.getElem?_cons_succ]; rfl) (by kernel_rfl) (by kernel_rfl) (by kernel_rfl) (by exact fun _ _ _ h => h) (y_fieldP (by kernel_rfl) _ 0 rfl g (i * 2) rfl (by decide)) hS ?_
      try simp only [Act.put, List.setIfInBounds_toArray, List.set_cons_zero, List.set_cons_succ]
      refine wpAnyH_take (i := 5) (v := (.slice pa na ca)) (by simp only [List.getElem?_toArray, List.getElem?_cons_zero, List.getElem?_cons_succ]; rfl) (by kernel_rfl) (by kernel_rfl) (by kernel_rfl) (by exact fun _ _ _ h => h) (y_loadB (by kernel_rfl) _ rfl g (i * 2 + 0) rfl _ (fun v hs => (HCE.out v hs).1)) hS ?_
      try simp only [Act.put, List.setIfInBounds_toArray, List.set_cons_zero, List.set_cons_succ]
      refine wpAnyH_take (i := 6) (v := (.slice (some ⟨g, 0, none⟩) Qc.length c1)) (by simp only [List.getElem?_toArray, List.getElem?_cons_zero, List.getElem?_cons_succ]; rfl) (by kernel_rfl) (by kernel_rfl) (by kernel_rfl) (by exact fun _ _ _ h => h) (y_move (by kernel_rfl) _ rfl _ rfl) hS ?_
      try simp only [Act.put, List.setIfInBounds_toArray, List.set_cons_zero, List.set_cons_succ]
      refine wpAnyH_take (i := 7) (v := (.int .i64 (i : Nat))) (by simp only [List.getElem?_toArray, List.getElem?_cons_zero, List.getElem?_cons_succ]; rfl) (by kernel_rfl) (by kernel_rfl) (by kernel_rfl) (by exact fun _ _ _ h => h) (y_move (by kernel_rfl) _ rfl _ rfl) hS ?_
      try simp only [Act.put, List.setIfInBounds_toArray, List.set_cons_zero, List.set_cons_succ]
      refine wpAnyH_take (i := 8) (v := (.pointer (some ⟨g, i * 2, none⟩))) (by simp only [List.getElem?_toArray, List.getElem?_cons_zero, List.getElem?_cons_succ]; rfl) (by kernel_rfl) (by kernel_rfl) (by kernel_rfl) (by exact fun _ _ _ h => h) (y_indexP (by kernel_rfl) _ _ rfl g Qc.length c1 i rfl rfl hiq) hS ?_
      try simp only [Act.put, List.setIfInBounds_toArray, List.set_cons_zero, List.set_cons_succ]
      refine wpAnyH_take (i := 9) (v := (.pointer (some ⟨g, i * 2 + 1, none⟩))) (by simp only [List.getElem?_toArray, List.getElem?_cons_zero, List.getElem?_cons_succ]; rfl) (by kernel_rfl) (by kernel_rfl) (by kernel_rfl) (by exact fun _ _ _ h => h) (y_fieldP (by kernel_rfl) _ 1 rfl g (i * 2) rfl (by decide)) hS ?_
      try simp only [Act.put, List.setIfInBounds_toArray, List.set_cons_zero, List.set_cons_succ]
      refine wpAnyH_take (i := 10) (v := (.slice pb nb cb)) (by simp only [List.getElem?_toArray, List.getElem?_cons_zero, List.getElem?_cons_succ]; rfl) (by kernel_rfl) (by kernel_rfl) (by kernel_rfl) (by exact fun _ _ _ h => h) (y_loadB (by kernel_rfl) _ rfl g (i * 2 + 1) rfl _ (fun v hs => (HCE.out v hs).2)) hS ?_
      try simp only [Act.put, List.setIfInBounds_toArray, List.set_cons_zero, List.set_cons_succ]
      refine wpAnyH_ready (rs := [11]) (by kernel_rfl) (by simp) ?_
      refine AllReadyH.cons (by simp only [List.getElem?_toArray, List.getElem?_cons_zero, List.getElem?_cons_succ]; rfl) (fun K hK => ?_) AllReadyH.nil
      go_simp
      have b1 : Below wr.heap.size wr (wd.alloc (.cells #[.slice pa na ca, .slice pb nb cb] 26)) := HBD.out.alloc HBD.out.size _
      have HO : Hid ((wd.alloc (.cells #[.slice pa na ca, .slice pb nb cb] 26)).ownsRow w.heap.size 26 1 u7 (2 * i) ((Qc.take i).flatMap PR.enc) ∧ Below wr.heap.size wr (wd.alloc (.cells #[.slice pa na ca, .slice pb nb cb] 26)) ∧ w.heap.size ≤ wd.heap.size) := ⟨own_below HA.out.1 b1, b1, Nat.le_trans HA.out.2.size HBD.out.size⟩
      refine hK.out _ _ (Turn.of_below b1) (fun hS => ?_)
      clear hK K b1 HBD
      try simp only [Act.put, List.setIfInBounds_toArray, List.set_cons_zero, List.set_cons_succ]
      refine wpAnyH_ready (rs := [12]) (by kernel_rfl) (by simp) ?_
      refine AllReadyH.cons (by simp only [List.getElem?_toArray, List.getElem?_cons_zero, List.getElem?_cons_succ]; rfl) (fun K hK => ?_) AllReadyH.nil
      refine step_append_lies _ (by rfl) _ _ 71 rfl w.heap.size 26 i0 nilS 1 24 Tryz.underlying71 HI.out.1 HI.out.2.1 HI.out.2.2.1 HI.out.2.2.2 (by rfl) (by decide) u7 (2 * i) ((Qc.take i).flatMap PR.enc) rfl HO.out.1 ⟨wd.heap.size, 0, none⟩ 2 2 [.slice pa na ca, .slice pb nb cb] rfl (by rfl) (World.news_of_block (cs := #[.slice pa na ca, .slice pb nb cb]) (t := 26) (fr := (0, 0)) (heap_alloc_new _ _)) (by simp [Value.oneCell']) (by decide) (by unfold maxLen; omega) (by omega) (by have := HO.out.2.2; simp; omega) _ rfl ?_
      intro g9 cap9 w9 own9 gr9 at9 lt9
      have T9 : Turn (fun i => u7.ownBlock = some i) wr w9 := (Turn.of_below HO.out.2.1 (F := fun i => u7.ownBlock = some i)).trans (Turn.of_grown gr9 (fun k e => e)) (fun _ q => Or.inl q)
      have B9 : Below w.heap.size w w9 := HA.out.2.trans (T9.below (fun i q => (HA.out.1.lt i q).1) HA.out.2.size)
      have HA9 : Hid (w9.ownsRow w.heap.size 26 1 (.slice (some ⟨g9, 0, none⟩) (2 * i + 2) cap9) (2 * (i + 1)) ((Qc.take (i + 1)).flatMap PR.enc) ∧ Below w.heap.size w w9) := ⟨by
        rw [take_pair HE.out.1, HE.out.2.1, HE.out.2.2, show 2 * (i + 1) = 2 * i + 2 by omega]
        exact own9, B9⟩
      refine hK.out _ _ T9 (fun hS => ?_)
      clear hK K own9 gr9 at9 lt9 T9 B9 HO HA HCE
      try simp only [Act.put, List.setIfInBounds_toArray, List.set_cons_zero, List.set_cons_succ]
      refine wpAnyH_take (i := 13) (v := (.slice (some ⟨g9, 0, none⟩) (2 * i + 2) cap9)) (by simp only [List.getElem?_toArray, List.getElem?_cons_zero, List.getElem?_cons_succ]; rfl) (by kernel_rfl) (by kernel_rfl) (by kernel_rfl) (by exact fun _ _ _ h => h) (y_assign (by kernel_rfl) _ rfl _ rfl) hS ?_
      try simp only [Act.put, List.setIfInBounds_toArray, List.set_cons_zero, List.set_cons_succ]
      refine wpAnyH_done (by kernel_rfl) ?_ _
      clear hS
      go_wp2_with fail
      go_roundg (Qc.length - (i + 1))
      case measure => omega
      case rel => exact ⟨i + 1, hiq, rfl, by go_num, HA9.out.1, HA9.out.2⟩
    · have ei : i = Qc.length := by omega
      have i1 : ¬ ((i : Int) < (Qc.length : Int)) := by omega
      have HB : Hid (wr.ownsRow w.heap.size 26 1 u7 (2 * Qc.length) (Qc.flatMap PR.enc) ∧ Below w.heap.size w wr) := by
        have := HA.out
        rw [ei, List.take_length] at this
        exact this
      clear HA ei
      go_wp2_with fail
      go_loopg [7, 9] Qt.length (fun gg v ii wr => ∃ i : Nat, i ≤ Qt.length ∧ gg = Qt.length - i ∧ ii = .int .i64 i ∧ wr.ownsRow w.heap.size 26 1 v (2 * Qc.length + 2 * i) (Qc.flatMap PR.enc ++ (Qt.take i).flatMap PR.enc) ∧ Below w.heap.size w wr)
      case atStart => exact ⟨0, Nat.zero_le _, rfl, rfl, by simpa using HB.out.1, HB.out.2⟩
      case round =>
        clear HB
        obtain ⟨i, hi, rfl, rfl, own, hb⟩ := hrel
        have HA : Hid (wr.ownsRow w.heap.size 26 1 u7 (2 * Qc.length + 2 * i) (Qc.flatMap PR.enc ++ (Qt.take i).flatMap PR.enc) ∧ Below w.heap.size w wr) := ⟨own, hb⟩
        clear own hb
        by_cases hiq : i < Qt.length
        · have i1 : (i : Int) < (Qt.length : Int) := by omega
          obtain ⟨g, rfl⟩ := HT.out.2 (by omega)
          obtain ⟨p, ep⟩ : ∃ p, Qt[i]? = some p := ⟨_, List.getElem?_eq_getElem (by omega)⟩
          obtain ⟨pa, ga, ca, pb, gb, cb, x1, _, x3, _, ea, eb⟩ := HT.out.1.ix i p ep
          have HCE : Hid (∀ v, Turn (fun i => u7.ownBlock = some i) wr v → v.cell? ⟨g, i * 2, none⟩ = some (.slice pa p.a.length ca) ∧ v.cell? ⟨g, i * 2 + 1, none⟩ = some (.slice pb p.b.length cb)) := fun v hv => by
            obtain ⟨cur, hc⟩ := own_block HT.out.1.own (g := g) rfl
            have lg : g < w.heap.size := (Array.getElem?_eq_some_iff.1 hc).1
            have hc' := (HA.out.2.block g lg).trans hc
            have ne := own_ne_cells HA.out.1 hc' (by decide)
            have lg' : g < wr.heap.size := (Array.getElem?_eq_some_iff.1 hc').1
            exact ⟨((hv.cell (q := ⟨g, i * 2, none⟩) lg' ne).trans (HA.out.2.cell (p := ⟨g, i * 2, none⟩) lg)).trans x1, ((hv.cell (q := ⟨g, i * 2 + 1, none⟩) lg' ne).trans (HA.out.2.cell (p := ⟨g, i * 2 + 1, none⟩) lg)).trans x3⟩
          have HE : Hid (Qt[i]? = some p ∧ p.ua = .slice pa p.a.length ca ∧ p.ub = .slice pb p.b.length cb) := ⟨ep, ea, eb⟩
          obtain ⟨na, hna⟩ : ∃ na, na = p.a.length := ⟨_, rfl⟩
          obtain ⟨nb, hnb⟩ : ∃ nb, nb = p.b.length := ⟨_, rfl⟩
          rw [← hna, ← hnb] at HCE HE
          clear x1 x3 ep ea eb hna hnb
          go_wp2_with fail
          have bd : Below wr.heap.size wr wr.drew := (Turn.drew (F := fun _ => False) wr).below (fun _ f => f.elim) (Nat.le_refl _)
          have s0 : (fun v => Turn (fun i => u7.ownBlock = some i) wr v) wr.drew := Turn.drew wr
          have HBD : Hid (Below wr.heap.size wr wr.drew) := bd
          refine wp_region_held_drew (S := fun v => Turn (fun i => u7.ownBlock = some i) wr v) (by kernel_rfl) s0 ?_
          intro hS
          clear s0 bd
          change wpAnyH _ _ _ _ _ 14 _ _ _
          generalize wr.drew = wd at hS HBD ⊢
          refine wpAnyH_take (i := 0) (v := u7) (by simp only [List.getElem?_toArray, List.getElem?_cons_zero]; rfl) (by kernel_rfl) (by kernel_rfl) (by kernel_rfl) (by exact fun _ _ _ h => h) (y_move (by kernel_rfl) _ rfl _ rfl) hS ?_
          try simp only [Act.put, List.setIfInBounds_toArray, List.set_cons_zero, List.set_cons_succ]
          refine wpAnyH_take (i := 1) (v := (.slice (some ⟨g, 0, none⟩) Qt.length c2)) (by simp only [List.getElem?_toArray, List.getElem?_cons_zero, List.getElem?_cons_succ]; rfl) (by kernel_rfl) (by kernel_rfl) (by kernel_rfl) (by exact fun _ _ _ h => h) (y_move (by kernel_rfl) _ rfl _ rfl) hS ?_
          try simp only [Act.put, List.setIfInBounds_toArray, List.set_cons_zero, List.set_cons_succ]
          refine wpAnyH_take (i := 2) (v := (.int .i64 (i : Nat))) (by simp only [List.getElem?_toArray, List.getElem?_cons_zero, List.getElem?_cons_succ]; rfl) (by kernel_rfl) (by kernel_rfl) (by kernel_rfl) (by exact fun _ _ _ h => h) (y_move (by kernel_rfl) _ rfl _ rfl) hS ?_
          try simp only [Act.put, List.setIfInBounds_toArray, List.set_cons_zero, List.set_cons_succ]
          refine wpAnyH_take (i := 3) (v := (.pointer (some ⟨g, i * 2, none⟩))) (by simp only [List.getElem?_toArray, List.getElem?_cons_zero, List.getElem?_cons_succ]; rfl) (by kernel_rfl) (by kernel_rfl) (by kernel_rfl) (by exact fun _ _ _ h => h) (y_indexP (by kernel_rfl) _ _ rfl g Qt.length c2 i rfl rfl hiq) hS ?_
          try simp only [Act.put, List.setIfInBounds_toArray, List.set_cons_zero, List.set_cons_succ]
          refine wpAnyH_take (i := 4) (v := (.pointer (some ⟨g, i * 2 + 0, none⟩))) (by simp only [List.getElem?_toArray, List.getElem?_cons_zero, List.getElem?_cons_succ]; rfl) (by kernel_rfl) (by kernel_rfl) (by kernel_rfl) (by exact fun _ _ _ h => h) (y_fieldP (by kernel_rfl) _ 0 rfl g (i * 2) rfl (by decide)) hS ?_
          try simp only [Act.put, List.setIfInBounds_toArray, List.set_cons_zero, List.set_cons_succ]
          refine wpAnyH_take (i := 5) (v := (.slice pa na ca)) (by simp only [List.getElem?_toArray, List.getElem?_cons_zero, List.getElem?_cons_succ]; rfl) (by kernel_rfl) (by kernel_rfl) (by kernel_rfl) (by exact fun _ _ _ h => h) (y_loadB (by kernel_rfl) _ rfl g (i * 2 + 0) rfl _ (fun v hs => (HCE.out v hs).1)) hS ?_
          try simp only [Act.put, List.setIfInBounds_toArray, List.set_cons_zero, List.set_cons_succ]
          refine wpAnyH_take (i := 6) (v := (.slice (some ⟨g, 0, none⟩) Qt.length c2)) (by simp only [List.getElem?_toArray, List.getElem?_cons_zero, List.getElem?_cons_succ]; rfl) (by kernel_rfl) (by kernel_rfl) (by kernel_rfl) (by exact fun _ _ _ h => h) (y_move (by kernel_rfl) _ rfl _ rfl) hS ?_
          try simp only [Act.put, List.setIfInBounds_toArray, List.set_cons_zero, List.set_cons_succ]
          refine wpAnyH_take (i := 7) (v := (.int .i64 (i : Nat))) (by simp only [List.getElem?_toArray, List.getElem?_cons_zero, List.getElem?_cons_succ]; rfl) (by kernel_rfl) (by kernel_rfl) (by kernel_rfl) (by exact fun _ _ _ h => h) (y_move (by kernel_rfl) _ rfl _ rfl) hS ?_
          try simp only [Act.put, List.setIfInBounds_toArray, List.set_cons_zero, List.set_cons_succ]
          refine wpAnyH_take (i := 8) (v := (.pointer (some ⟨g, i * 2, none⟩))) (by simp only [List.getElem?_toArray, List.getElem?_cons_zero, List.getElem?_cons_succ]; rfl) (by kernel_rfl) (by kernel_rfl) (by kernel_rfl) (by exact fun _ _ _ h => h) (y_indexP (by kernel_rfl) _ _ rfl g Qt.length c2 i rfl rfl hiq) hS ?_
          try simp only [Act.put, List.setIfInBounds_toArray, List.set_cons_zero, List.set_cons_succ]
          refine wpAnyH_take (i := 9) (v := (.pointer (some ⟨g, i * 2 + 1, none⟩))) (by simp only [List.getElem?_toArray, List.getElem?_cons_zero, List.getElem?_cons_succ]; rfl) (by kernel_rfl) (by kernel_rfl) (by kernel_rfl) (by exact fun _ _ _ h => h) (y_fieldP (by kernel_rfl) _ 1 rfl g (i * 2) rfl (by decide)) hS ?_
          try simp only [Act.put, List.setIfInBounds_toArray, List.set_cons_zero, List.set_cons_succ]
          refine wpAnyH_take (i := 10) (v := (.slice pb nb cb)) (by simp only [List.getElem?_toArray, List.getElem?_cons_zero, List.getElem?_cons_succ]; rfl) (by kernel_rfl) (by kernel_rfl) (by kernel_rfl) (by exact fun _ _ _ h => h) (y_loadB (by kernel_rfl) _ rfl g (i * 2 + 1) rfl _ (fun v hs => (HCE.out v hs).2)) hS ?_
          try simp only [Act.put, List.setIfInBounds_toArray, List.set_cons_zero, List.set_cons_succ]
          refine wpAnyH_ready (rs := [11]) (by kernel_rfl) (by simp) ?_
          refine AllReadyH.cons (by simp only [List.getElem?_toArray, List.getElem?_cons_zero, List.getElem?_cons_succ]; rfl) (fun K hK => ?_) AllReadyH.nil
          go_simp
          have b1 : Below wr.heap.size wr (wd.alloc (.cells #[.slice pa na ca, .slice pb nb cb] 26)) := HBD.out.alloc HBD.out.size _
          have HO : Hid ((wd.alloc (.cells #[.slice pa na ca, .slice pb nb cb] 26)).ownsRow w.heap.size 26 1 u7 (2 * Qc.length + 2 * i) (Qc.flatMap PR.enc ++ (Qt.take i).flatMap PR.enc) ∧ Below wr.heap.size wr (wd.alloc (.cells #[.slice pa na ca, .slice pb nb cb] 26)) ∧ w.heap.size ≤ wd.heap.size) := ⟨own_below HA.out.1 b1, b1, Nat.le_trans HA.out.2.size HBD.out.size⟩
          refine hK.out _ _ (Turn.of_below b1) (fun hS => ?_)
          clear hK K b1 HBD
          try simp only [Act.put, List.setIfInBounds_toArray, List.set_cons_zero, List.set_cons_succ]
          refine wpAnyH_ready (rs := [12]) (by kernel_rfl) (by simp) ?_
          refine AllReadyH.cons (by simp only [List.getElem?_toArray, List.getElem?_cons_zero, List.getElem?_cons_succ]; rfl) (fun K hK => ?_) AllReadyH.nil
          refine step_append_lies _ (by rfl) _ _ 71 rfl w.heap.size 26 i0 nilS 1 24 Tryz.underlying71 HI.out.1 HI.out.2.1 HI.out.2.2.1 HI.out.2.2.2 (by rfl) (by decide) u7 (2 * Qc.length + 2 * i) (Qc.flatMap PR.enc ++ (Qt.take i).flatMap PR.enc) rfl HO.out.1 ⟨wd.heap.size, 0, none⟩ 2 2 [.slice pa na ca, .slice pb nb cb] rfl (by rfl) (World.news_of_block (cs := #[.slice pa na ca, .slice pb nb cb]) (t := 26) (fr := (0, 0)) (heap_alloc_new _ _)) (by simp [Value.oneCell']) (by decide) (by unfold maxLen; omega) (by omega) (by have := HO.out.2.2; simp; omega) _ rfl ?_
          intro g9 cap9 w9 own9 gr9 at9 lt9
          have T9 : Turn (fun i => u7.ownBlock = some i) wr w9 := (Turn.of_below HO.out.2.1 (F := fun i => u7.ownBlock = some i)).trans (Turn.of_grown gr9 (fun k e => e)) (fun _ q => Or.inl q)
          have B9 : Below w.heap.size w w9 := HA.out.2.trans (T9.below (fun i q => (HA.out.1.lt i q).1) HA.out.2.size)
          have HA9 : Hid (w9.ownsRow w.heap.size 26 1 (.slice (some ⟨g9, 0, none⟩) (2 * Qc.length + 2 * i + 2) cap9) (2 * Qc.length + 2 * (i + 1)) (Qc.flatMap PR.enc ++ (Qt.take (i + 1)).flatMap PR.enc) ∧ Below w.heap.size w w9) := ⟨by
            rw [take_pair HE.out.1, HE.out.2.1, HE.out.2.2, ← List.append_assoc, show 2 * Qc.length + 2 * (i + 1) = 2 * Qc.length + 2 * i + 2 by omega]
            exact own9, B9⟩
          refine hK.out _ _ T9 (fun hS => ?_)
          clear hK K own9 gr9 at9 lt9 T9 B9 HO HA HCE
          try simp only [Act.put, List.setIfInBounds_toArray, List.set_cons_zero, List.set_cons_succ]
          refine wpAnyH_take (i := 13) (v := (.slice (some ⟨g9, 0, none⟩) (2 * Qc.length + 2 * i + 2) cap9)) (by simp only [List.getElem?_toArray, List.getElem?_cons_zero, List.getElem?_cons_succ]; rfl) (by kernel_rfl) (by kernel_rfl) (by kernel_rfl) (by exact fun _ _ _ h => h) (y_assign (by kernel_rfl) _ rfl _ rfl) hS ?_
          try simp only [Act.put, List.setIfInBounds_toArray, List.set_cons_zero, List.set_cons_succ]
          refine wpAnyH_done (by kernel_rfl) ?_ _
          clear hS
          go_wp2_with fail
          go_roundg (Qt.length - (i + 1))
          case measure => omega
          case rel => exact ⟨i + 1, hiq, rfl, by go_num, HA9.out.1, HA9.out.2⟩
        · have ei : i = Qt.length := by omega
          have i1 : ¬ ((i : Int) < (Qt.length : Int)) := by omega
          have HB : Hid (wr.ownsRow w.heap.size 26 1 u7 (2 * Qc.length + 2 * Qt.length) (Qc.flatMap PR.enc ++ Qt.flatMap PR.enc) ∧ Below w.heap.size w wr) := by
            have := HA.out
            rw [ei, List.take_length] at this
            exact this
          clear HA ei
          go_wp2_with fail
          have HB2 := HB
          clear HB
          go_loopg [7, 10] Qf.length (fun gg v ii wr => ∃ i : Nat, i ≤ Qf.length ∧ gg = Qf.length - i ∧ ii = .int .i64 i ∧ wr.ownsRow w.heap.size 26 1 v (2 * Qc.length + 2 * Qt.length + i) (Qc.flatMap PR.enc ++ Qt.flatMap PR.enc ++ (Qf.take i).map FG.u) ∧ Below w.heap.size w wr)
          case atStart => exact ⟨0, Nat.zero_le _, rfl, rfl, by simpa using HB2.out.1, HB2.out.2⟩
          case round =>
            clear HB2
            obtain ⟨i, hi, rfl, rfl, own, hb⟩ := hrel
            have HA : Hid (wr.ownsRow w.heap.size 26 1 u7 (2 * Qc.length + 2 * Qt.length + i) (Qc.flatMap PR.enc ++ Qt.flatMap PR.enc ++ (Qf.take i).map FG.u) ∧ Below w.heap.size w wr) := ⟨own, hb⟩
            clear own hb
            by_cases hiq : i < Qf.length
            · have i1 : (i : Int) < (Qf.length : Int) := by omega
              obtain ⟨g, rfl⟩ := HF.out.2 (by omega)
              obtain ⟨p, ep⟩ : ∃ p, Qf[i]? = some p := ⟨_, List.getElem?_eq_getElem (by omega)⟩
              obtain ⟨pa, ga, ca, x1, _, _, ea, _⟩ := HF.out.1.ix i p ep
              have ce : wr.cell? ⟨g, i * 33, none⟩ = some (.slice pa p.s.length ca) := by
                obtain ⟨cur, hc⟩ := own_block HF.out.1.own (g := g) rfl
                exact (HA.out.2.cell (p := ⟨g, i * 33, none⟩) (Array.getElem?_eq_some_iff.1 hc).1).trans x1
              have HE : Hid (Qf[i]? = some p ∧ p.u = .slice pa p.s.length ca) := ⟨ep, ea⟩
              obtain ⟨na, hna⟩ : ∃ na, na = p.s.length := ⟨_, rfl⟩
              rw [← hna] at ce HE
              have HW : Hid (w.heap.size ≤ wr.heap.size) := HA.out.2.size
              clear x1 ep ea hna
              go_wp2_with (at_builtin; refine wpList_append_lies _ (by rfl) _ _ 71 (by rfl) w.heap.size 26 i0 nilS 1 24 Tryz.underlying71 HI.out.1 HI.out.2.1 HI.out.2.2.1 HI.out.2.2.2 (by rfl) (by decide) u7 (2 * Qc.length + 2 * Qt.length + i) (Qc.flatMap PR.enc ++ Qt.flatMap PR.enc ++ (Qf.take i).map FG.u) (by rfl) (HA.out.1.alloc _) ⟨wr.heap.size, 0, none⟩ 1 1 [.slice pa na ca] (by rfl) (by rfl) (World.news_of_block (cs := #[.slice pa na ca]) (t := 26) (fr := (0, 0)) (heap_alloc_new _ _)) (by simp [Value.oneCell']) (by decide) (by unfold maxLen; omega) (by omega) (by have := HW.out; simp; omega) _ (by rfl) ?_; intro g9 cap9 w9 own9 gr9 at9 lt9)
              have T9 : Turn (fun i => u7.ownBlock = some i) wr w9 := (Turn.alloc wr _ (F := fun i => u7.ownBlock = some i)).trans (Turn.of_grown gr9 (fun k e => e)) (fun _ q => Or.inl q)
              have B9 : Below w.heap.size w w9 := HA.out.2.trans (T9.below (fun i q => (HA.out.1.lt i q).1) HA.out.2.size)
              have HA9 : Hid (w9.ownsRow w.heap.size 26 1 (.slice (some ⟨g9, 0, none⟩) (2 * Qc.length + 2 * Qt.length + i + 1) cap9) (2 * Qc.length + 2 * Qt.length + (i + 1)) (Qc.flatMap PR.enc ++ Qt.flatMap PR.enc ++ (Qf.take (i + 1)).map FG.u) ∧ Below w.heap.size w w9) := ⟨by
                rw [List.take_add_one, HE.out.1, List.map_append, ← List.append_assoc]
                show w9.ownsRow _ _ _ _ _ (_ ++ [p.u])
                rw [HE.out.2]
                exact own9, B9⟩
              clear own9 gr9 at9 lt9 T9 B9 HA
              go_wp2_with fail
              go_roundg (Qf.length - (i + 1))
              case measure => omega
              case rel => exact ⟨i + 1, hiq, rfl, by go_num, HA9.out.1, HA9.out.2⟩
            · have ei : i = Qf.length := by omega
              have i1 : ¬ ((i : Int) < (Qf.length : Int)) := by omega
              have HB : Hid (wr.ownsRow w.heap.size 26 1 u7 (strs Qc Qt Qf).length (strs Qc Qt Qf) ∧ Below w.heap.size w wr) := by
                have := HA.out
                rw [ei, List.take_length] at this
                refine ⟨?_, this.2⟩
                rw [show (strs Qc Qt Qf).length = 2 * Qc.length + 2 * Qt.length + Qf.length by unfold strs; rw [List.length_append, List.length_append, pairs_len, pairs_len, List.length_map]]
                exact this.1
              clear HA ei
              go_wp2_with fail
              go_ret
              exact ⟨u7, rfl, HB.out⟩
end Go.Proofs.YtlhllbggnpcoaaaGreatDoor
