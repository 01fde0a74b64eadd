import Derived.Test.YtgglbjnfbfpiiaaGreatDoorF9zz
/-
  The evaluator: ranges over functions.
-/
namespace Go.Ev
open Go
section
variable {P : Program} {N : Nat}
theorem run_getLoop {w : World} {l : Nat} {r : Loop} (h : w.heap[l]? = some (.loop r)) : (Instr.getLoop l).run P w = .ok r w := by
  simp [Instr.getLoop, getObj, Sem.run, h]
theorem newO_pair {s s1 : St} {o : Ob} {l : Nat} (h : newO s o (fun l s => some (l, s)) = some (l, s1)) : s.nx < s.nx + 1 ∧ l = s.nx ∧ s1 = .mk (s.hp.set o s.nx) (s.nx + 1) s.gr := by
  obtain ⟨h1, h2⟩ := newO_some h
  cases h2
  exact ⟨h1, rfl, rfl⟩
theorem endLoop_ok {E : En} {s s' : St} {w : World} (h : Rel N E s w) {l : Nat} {a a' : Ac} {e : Ex} (hx : endLoop l a s = .ok e a' s') :
    a' = a ∧ ∃ jump w', (Instr.endLoop (E.ι l)).run P w = .ok jump w' ∧ Stp N E s w E s' w' ∧ ((e = .normal ∧ jump = none) ∨ (∃ id, e = .exit id ∧ jump = some (.exit id)) ∨ (e = .ret ∧ jump = some .ret)) := by
  obtain ⟨hp, nx, gr⟩ := s
  unfold endLoop at hx
  simp only at hx
  split at hx
  case h_2 => cases hx
  rename_i st pd fn tmps ps asx bd df n tm hl
  obtain ⟨lp', h1, L⟩ := (h.ob l _ hl).2
  have hnc : ∀ c t f, Obj.loop lp' ≠ .cells c t f := fun _ _ _ e => by cases e
  have main : st ≠ .busy → leftO pd a (setO hp nx gr l (.loop ⟨.exhausted, pd, fn, tmps, ps, asx, bd, df⟩ n tm)) = .ok e a' s' → a' = a ∧ ∃ jump w', (Instr.endLoop (E.ι l)).run P w = .ok jump w' ∧ Stp N E (.mk hp nx gr) w E s' w' ∧ ((e = .normal ∧ jump = none) ∨ (∃ id, e = .exit id ∧ jump = some (.exit id)) ∨ (e = .ret ∧ jump = some .ret)) := by
    intro hst hx
    unfold leftO at hx
    split at hx
    · cases hx
    · rename_i s1 hs1
      have e1 := setO_some hs1
      subst e1
      have S : Stp N E (.mk hp nx gr) w E (.mk (hp.set (.loop ⟨.exhausted, pd, fn, tmps, ps, asx, bd, df⟩ n tm) l) nx gr) (World.row w (E.ι l) (.loop { lp' with state := .exhausted })) :=
        stp_setob h hl trivial rfl trivial rfl fun w' hw' => ⟨_, hw', ⟨rfl, L.pending, L.fn, L.params, L.assign, L.body, L.lt, L.defers, L.size, L.tmps⟩⟩
      have hrun : (Instr.endLoop (E.ι l)).run P w = .ok pd (World.row w (E.ι l) (.loop { lp' with state := .exhausted })) := by
        have hb : (lp'.state == LoopState.busy) = false := by rw [L.state]; cases st <;> first | rfl | exact absurd rfl hst
        simp only [Instr.endLoop, Sem.run_bind, run_getLoop h1, Result.andThen_ok, hb, Bool.false_eq_true, if_false, run_setObj h1 hnc, Sem.run_pure, L.pending]
      unfold leftBy at hx
      split at hx
      · cases hx; exact ⟨rfl, _, _, hrun, S, .inl ⟨rfl, rfl⟩⟩
      · cases hx; exact ⟨rfl, _, _, hrun, S, .inr (.inl ⟨_, rfl, rfl⟩)⟩
      · cases hx; exact ⟨rfl, _, _, hrun, S, .inr (.inr ⟨rfl, rfl⟩)⟩
      · cases hx
  cases st with
  | busy => cases hx
  | ready => exact main (fun e => by cases e) hx
  | done => exact main (fun e => by cases e) hx
  | exhausted => exact main (fun e => by cases e) hx
/-- A loop's record is made, the function is called, the loop ends. -/
theorem rangeIn_ok {rec : Rec} (R : RecOk N P rec) {fn : FuncId} {f : Operand} {ps : Array Tmp} {asx bd : Code} {E : En} {s s' : St} {w w0 : World} {a a' : Ac} {act act0 : Act} {e : Ex} (h : Rel N E s w) (ha : AcR E a act) {d : Nat} (hd : d < E.nx)
    (hx : rangeIn P rec fn f ps asx bd d a s = .ok e a' s') {b : Frame} {k : List Item} {cs : List Frame} (hf : b.fn = fn) {mark : List Deferred} (hact : act = { act0 with defers := mark ++ act0.defers })
    (he : (Instr.enterLoop b.fn act0.tmps ps asx bd b.roundOf).run P w0 = .ok (w.heap.size, mark) { w with heap := w.heap.push (.loop { state := .ready, pending := none, fn := b.fn, tmps := act0.tmps, params := ps, assign := asx, body := bd, defers := E.ι d }) }) :
    ∃ E' act' w', Stp N E s w E' s' w' ∧ AcR E' a' act' ∧ Left P (lone (b.atR act0 (.code (.rangeFunc f ps asx bd) :: k)) cs w0) b k cs act' w' e := by
  obtain ⟨n, tm, df⟩ := a
  unfold rangeIn at hx
  simp only at hx
  split at hx
  case h_1 => cases hx
  rename_i l s1 hn
  obtain ⟨h1, rfl, rfl⟩ := newO_pair hn
  obtain ⟨hsz, hn6⟩ := ha.size n tm df rfl
  have htm := ha.tmps n tm df rfl
  have hta : act.tmps = act0.tmps := by rw [hact]
  have X := En.push_ext E w.heap.size 0 0
  have S1 : Stp N E s w (E.push w.heap.size 0 0) (.mk (s.hp.set (.loop ⟨.ready, none, fn, #[], ps, asx, bd, d⟩ n tm) s.nx) (s.nx + 1) s.gr) { w with heap := w.heap.push (.loop { state := .ready, pending := none, fn := b.fn, tmps := act0.tmps, params := ps, assign := asx, body := bd, defers := E.ι d }) } := by
    refine stp_new h h1 rfl trivial rfl rfl rfl rfl ⟨{ state := .ready, pending := none, fn := b.fn, tmps := act0.tmps, params := ps, assign := asx, body := bd, defers := E.ι d }, by rw [En.push_ι]; simp, ⟨rfl, rfl, hf, rfl, rfl, rfl, Nat.lt_succ_of_lt hd, ?_, ?_, ?_⟩⟩
    · rw [X.ι d hd]
    · rw [← hta]; exact hsz
    · rw [← hta]; exact htm.ext X
  have hfv := opd_sound h htm f
  unfold rangeF at hx
  split at hx
  case h_2 => cases hx
  rename_i g x0 y0 hfo
  rw [hfo] at hfv
  obtain ⟨x', y', ef, hx0, hy0⟩ := hfv.func_inv
  unfold rangeK at hx
  split at hx
  case h_2 => cases hx
  rename_i g2 args s2 hcv
  obtain ⟨rfl, e2, kc⟩ := run_callFunc hcv
  cases e2
  split at hx
  case h_1 => cases hx
  rename_i v s3 hrec
  have hyl : VR (E.push w.heap.size 0 0) (.func (.yield s.nx) #[] #[]) (.func (.yield w.heap.size) #[] #[]) := by
    have := VR.yld (E := E.push w.heap.size 0 0) E.nx [] [] [] [] (Nat.lt_succ_self _) .nil .nil
    rw [En.push_ι] at this
    rw [h.nx]
    exact this
  rw [appO_eq] at hrec
  have hargs : VRs (E.push w.heap.size 0 0) (x0.toList ++ (.func (.yield s.nx) #[] #[] :: y0.toList)) (x' ++ (.func (.yield w.heap.size) #[] #[] :: y')) := (hx0.ext X).append (.cons _ _ _ _ hyl (hy0.ext X))
  obtain ⟨E2, w2, v', fr, z1, z2, z3, z4, z5, z6, z7, fd, z8, z9⟩ := R.call S1.rel hargs hrec (b.atR act (.inRangeFunc w.heap.size :: k) :: cs)
  obtain ⟨rfl, jump, w3, q1, q2, q3⟩ := endLoop_ok (P := P) z1.rel hx
  refine ⟨E2, act, w3, (S1.trans z1).trans q2, (ha.ext S1.ext).ext z1.ext, ?_⟩
  have hιl : E2.ι s.nx = w.heap.size := by
    rw [z1.ext.ι s.nx (by rw [h.nx]; exact Nat.lt_succ_self _), h.nx, En.push_ι]
  rw [hιl] at q1
  have st1 : step P (lone (b.atR act0 (.code (.rangeFunc f ps asx bd) :: k)) cs w0) = .next (lone (Frame.enter P g ⟨x' ++ (.func (.yield w.heap.size) #[] #[] :: y')⟩ .normal) (b.atR act (.inRangeFunc w.heap.size :: k) :: cs) { w with heap := w.heap.push (.loop { state := .ready, pending := none, fn := b.fn, tmps := act0.tmps, params := ps, assign := asx, body := bd, defers := E.ι d }) }) := by
    rw [hact]
    have ef0 : act0.eval f = .func (.func g) ⟨x'⟩ ⟨y'⟩ := by
      have : act.eval f = act0.eval f := by rw [hact]; cases f <;> rfl
      rw [← this]; exact ef
    refine stepR_rangeFunc (w₁' := { w with heap := w.heap.push (.loop { state := .ready, pending := none, fn := b.fn, tmps := act0.tmps, params := ps, assign := asx, body := bd, defers := E.ι d }) }) he (d := ⟨.fn (.func g) ⟨y'⟩, ⟨x'⟩ ++ #[.func (.yield w.heap.size) #[] #[]]⟩) ?_ ?_
    · simp only [resolve, ef0, Deferred.ofValue, Sem.run_pure]
      simp [Act.eval]
    · simp only [invoke, kc]
      congr 2
      apply Array.ext'
      simp
  have st2 := step_left (c := b.atR act (.inRangeFunc w.heap.size :: k)) (cs := cs) z4 z5 z6 z7 z8 z9
  rw [finish_atR_inRangeFunc] at st2
  have st3 := stepR_endRangeFunc (b := b) (a := act) (k := k) (cs := cs) q1
  have all : Steps P (lone (b.atR act0 (.code (.rangeFunc f ps asx bd) :: k)) cs w0) (lone (b.atR act ((jump.map Item.code).toList ++ k)) cs w3) := .head st1 (z3.trans (.head st2 (.one st3)))
  rcases q3 with ⟨rfl, rfl⟩ | ⟨id, rfl, rfl⟩ | ⟨rfl, rfl⟩
  · exact all
  · exact ⟨k, rfl, all⟩
  · exact ⟨k, all⟩
theorem range_ok {rec : Rec} (R : RecOk N P rec) {fn : FuncId} {rd : Option Nat} (f : Operand) (ps : Array Tmp) (asx bd : Code) : CodeOk N P fn rd (.rangeFunc f ps asx bd) (fun a s => rangeC P rec fn rd f ps asx bd a s) := by
  intro E s s' w a a' act e h ha hh b k cs hb hf hra
  replace hh : rangeC P rec fn rd f ps asx bd a s = .ok e a' s' := hh
  obtain ⟨hp, nx, gr⟩ := s
  obtain ⟨n, tm, df⟩ := a
  cases rd with
  | some l =>
    unfold rangeC at hh
    simp only at hh
    split at hh
    case h_2 => cases hh
    rename_i lp n2 tm2 hl
    obtain ⟨hlt, hro⟩ := hra l rfl
    obtain ⟨lp', h1, L⟩ := (h.ob l _ hl).2
    refine rangeIn_ok R h ha L.lt hh hf (mark := []) (by cases act; rfl) ?_
    simp only [Instr.enterLoop, hro, Sem.run_bind, run_getLoop h1, Result.andThen_ok, Sem.run_pure, run_newObj, L.defers]
  | none =>
    unfold rangeC at hh
    simp only at hh
    split at hh
    case h_2 => cases hh
    rename_i r s1 hn
    obtain ⟨h1, rfl, rfl⟩ := newO_pair hn
    have X := En.push_ext E w.heap.size 0 0
    have S1 : Stp N E (.mk hp r gr) w (E.push w.heap.size 0 0) (.mk ((St.mk hp r gr).hp.set (.dfr (some [])) (St.mk hp r gr).nx) ((St.mk hp r gr).nx + 1) (St.mk hp r gr).gr) { w with heap := w.heap.push (.deferred (some [])) } :=
      stp_new h h1 rfl trivial rfl rfl rfl rfl ⟨some [], by rw [En.push_ι]; simp, .some _ _ .nil⟩
    have hro : b.roundOf = none := hb.1 rfl
    have hnx : (St.mk hp r gr).nx = E.nx := h.nx
    have hιr : (E.push w.heap.size 0 0).ι E.nx = w.heap.size := En.push_ι _ _ _ _
    have hd : (St.mk hp r gr).nx < (E.push w.heap.size 0 0).nx := by rw [hnx]; exact Nat.lt_succ_self _
    have ha2 : AcR (E.push w.heap.size 0 0) (.mk n tm (⟨.collected (St.mk hp r gr).nx, #[]⟩ :: df)) { act with defers := [⟨.collected w.heap.size, #[]⟩] ++ act.defers } := by
      refine .mk' (ha.size n tm df rfl).1 (ha.size n tm df rfl).2 ((ha.tmps n tm df rfl).ext X) (.cons _ _ _ _ ?_ ((ha.defers n tm df rfl).ext X))
      have := DfR.col (E := E.push w.heap.size 0 0) (St.mk hp r gr).nx hd
      rw [hnx, hιr] at this
      rw [hnx]
      exact this
    obtain ⟨E2, act2, w2, z1, z2, z3⟩ := rangeIn_ok R S1.rel ha2 hd hh (b := b) (k := k) (cs := cs) (w0 := w) (act0 := act) hf (mark := [⟨.collected w.heap.size, #[]⟩]) rfl (by
      simp only [Instr.enterLoop, hro, Sem.run_bind, Sem.run_pure, run_newObj, Result.andThen_ok]
      rw [hnx, hιr])
    exact ⟨E2, act2, w2, S1.trans z1, z2, z3⟩
/-- Every statement. -/
theorem code_ok {rec : Rec} (R : RecOk N P rec) (D : DrawOk N P rec) (fn : FuncId) (rd : Option Nat) : ∀ c : Code, CodeOk N P fn rd c (code P rec fn rd c) := by
  intro c
  induction c with
  | skip => intro E s s' w a a' act e h ha hh b k cs hb hf hra; cases hh; exact ⟨E, act, w, .refl h, ha, .one stepR_skip⟩
  | region id ops dr => exact region_ok R D id ops dr
  | seq x y ihx ihy => exact code_seq ihx ihy
  | cond c x y ihx ihy => exact code_cond ihx ihy
  | block id x ih => exact code_block ih
  | loop x ih => exact code_loop ih 4611686018427387904
  | rangeFunc f ps asx bd _ _ => exact range_ok R f ps asx bd
  | exit id => intro E s s' w a a' act e h ha hh b k cs hb hf hra; cases hh; exact ⟨E, act, w, .refl h, ha, k, rfl, .refl _ _⟩
  | scope x ih => exact code_scope ih
  | label l => intro E s s' w a a' act e h ha hh b k cs hb hf hra; cases hh; exact ⟨E, act, w, .refl h, ha, .one stepR_label⟩
  | goto l => intro E s s' w a a' act e h ha hh; cases hh
  | ret => intro E s s' w a a' act e h ha hh b k cs hb hf hra; cases hh; exact ⟨E, act, w, .refl h, ha, k, .refl _ _⟩
  | refuse why => intro E s s' w a a' act e h ha hh; cases hh
end
end Go.Ev
