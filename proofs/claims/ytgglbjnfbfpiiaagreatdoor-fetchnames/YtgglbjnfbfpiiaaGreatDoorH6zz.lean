import Derived.Test.YtgglbjnfbfpiiaaGreatDoorH5zz
/-
  The evaluator: an order that is drawn; what was made ahead of its turn is taken in, and an operation that acts.
-/
namespace Go.Ev
open Go
/-- A block that was made since. -/
theorem Stp.absorb {N : Nat} {E0 E : En} {s0 s : St} {w0 w : World} (h : Stp N E0 s0 w0 E s w) (hn : s.nx < s.nx + 1) {o : Ob} {a sz : Nat} (hg : o.grp = 0) (hrw : o.rw) (h0 : w0.heap.size ≤ a) (hN : N ≤ a)
    (hf : ∀ b o, s.hp.get b = some o → o ≠ .dead → E.ι b ≠ a) (ho : ObR (E.push a 0 sz) E.nx w o) :
    Stp N E0 s0 w0 (E.push a 0 sz) (.mk (s.hp.set o s.nx) (s.nx + 1) s.gr) w := by
  have X := En.push_ext E a 0 sz
  have r := h.rel
  refine ⟨h.ext.trans X, rel_absorb r hn hg hrw hN hf ho, h.os, h.tape, h.output, h.size, h.kept, fun b ob hb hr => ?_⟩
  have gets : (s.hp.set o s.nx).get b = if b = E.nx then some o else s.hp.get b := by
    rw [Tr.get_set _ _ _ (by have := r.hi; have := r.nx; omega), r.nx]
  rw [show (St.mk (s.hp.set o s.nx) (s.nx + 1) s.gr).hp = s.hp.set o s.nx from rfl, gets] at hb
  split at hb
  · rename_i e
    subst e
    rw [En.push_ι]
    exact .inl h0
  · rw [X.ι b (r.ob b ob hb).1]
    exact h.prov b ob hb hr
section
variable {P : Program} {rec : Rec} {C : Cx P rec} {N : Nat} {E0 : En} {s0 : St} {w0 : World} {c : Nat} {D : List Nat} {E : En} {w : World} {act : Act} {ad : Nat → Nat × Nat}
/-- The plan goes on over what was done ahead of its turn. -/
theorem Sim.absorb1 (I : Sim C N E0 s0 w0 c D E w act ad) (hN : N ≤ w0.heap.size) {x : Sp} (hx : C.l[c]? = some x) (hin : x.ix ∈ D) : ∃ E', Sim C N E0 s0 w0 (c + 1) D E' w act ad := by
  have hcl := getElem?_lt hx
  have hk : x.kd ≠ .acts := fun e => I.acts c x (Nat.le_refl _) hx e hin
  obtain ⟨hst, hdf⟩ := I.still c x (Nat.le_refl _) hx hin hk
  -- what is common
  have key : ∀ E', Ext E E' → Stp N E0 s0 w0 E' (C.s (c + 1)) w → (C.Em D c → (C.s c).nx < E'.nx ∧ E'.ι (C.s c).nx = (ad c).1 ∧ E'.sh (C.s c).nx = 0 ∧ E'.sz (C.s c).nx = (ad c).2) →
      (∀ j, c + 1 ≤ j → C.Em D j → ∀ b o, (C.s (c + 1)).hp.get b = some o → o ≠ .dead → E'.ι b ≠ (ad j).1) → Sim C N E0 s0 w0 (c + 1) D E' w act ad := by
    intro E' X hS hem hal
    have mp : ∀ {E2 : En} {q : Nat}, Ext E' E2 → C.Mp D ad E2 (c + 1) q → C.Mp D ad E2 c q := by
      intro E2 q X2 h j h1 h2 he
      by_cases e : j = c
      · subst e
        obtain ⟨k1, k2, k3, k4⟩ := hem he
        exact ⟨Nat.lt_of_lt_of_le k1 X2.nx, by rw [X2.ι _ k1]; exact k2, by rw [X2.sh _ k1]; exact k3, by rw [X2.sz _ k1]; exact k4⟩
      · exact h j (by omega) h2 he
    refine ⟨hS, hcl, I.dn, fun m y hm hy => ?_, fun m y hm hy hka => I.acts m y (by omega) hy hka, fun m y t hy hyin hd E2 X2 hp => I.t1 m y t hy hyin hd E2 (X.trans X2) (mp X2 hp), fun t ht => (I.t0 t ht).ext X, I.size, by rw [hdf]; exact I.dfr.ext X,
      fun j y hj hy hyin hky => I.still j y (by omega) hy hyin hky, fun j hj he => ?_, fun j j' hj hj' he he' hne => I.mkd j j' (by omega) (by omega) he he' hne⟩
    · by_cases e : m = c
      · subst e
        rw [hx] at hy
        cases hy
        exact hin
      · exact I.done m y (by omega) hy
    · have F := I.made j (by omega) he
      obtain ⟨ob, f1, f2, f3, f4, f5⟩ := F.ob
      exact ⟨F.nx, F.lt, F.ge, hal j hj he, ob, f1, f2, f3, f4, fun E2 X2 hnx hp w2 hw2 => f5 E2 (X.trans X2) hnx (mp X2 hp) w2 hw2⟩
  by_cases hem : C.Em D c
  · have F := I.made c (Nat.le_refl _) hem
    obtain ⟨ob, f1, f2, f3, f4, f5⟩ := F.ob
    have hobr := f5 E (.refl E) I.nxE (fun j h1 h2 => by omega) w rfl
    have hS := I.stp.absorb f1 f3 f4 F.ge (Nat.le_trans hN F.ge) F.alone hobr
    rw [← f2] at hS
    have hsc : (C.s c).nx = E.nx := I.nxE.symm
    refine ⟨E.push (ad c).1 0 (ad c).2, key _ (En.push_ext _ _ _ _) hS (fun _ => ?_) fun j hj he b o hb hd => ?_⟩
    · rw [hsc]
      exact ⟨Nat.lt_succ_self _, En.push_ι _ _ _ _, En.push_sh _ _ _ _, En.push_sz _ _ _ _⟩
    · rw [f2] at hb
      have gets : ((C.s c).hp.set ob (C.s c).nx).get b = if b = E.nx then some ob else (C.s c).hp.get b := by
        rw [Tr.get_set _ _ _ (by omega), hsc]
      rw [show (St.mk ((C.s c).hp.set ob (C.s c).nx) ((C.s c).nx + 1) (C.s c).gr).hp = (C.s c).hp.set ob (C.s c).nx from rfl, gets] at hb
      split at hb
      · rename_i e
        subst e
        rw [En.push_ι]
        exact I.mkd c j (Nat.le_refl _) (by omega) hem he (by omega)
      · rw [(En.push_ext E (ad c).1 0 (ad c).2).ι b (I.stp.rel.ob b o hb).1]
        exact (I.made j (by omega) he).alone b o hb hd
  · have hs : C.s (c + 1) = C.s c := hst.resolve_left hem
    refine ⟨E, key E (.refl E) (by rw [hs]; exact I.stp) (fun h => absurd h hem) fun j hj he => ?_⟩
    rw [hs]
    exact (I.made j (by omega) he).alone
theorem Sim.absorb (hN : N ≤ w0.heap.size) : ∀ (d : Nat) {c : Nat} {E : En}, Sim C N E0 s0 w0 c D E w act ad → c + d ≤ C.l.length → (∀ (j : Nat) (x : Sp), c ≤ j → j < c + d → C.l[j]? = some x → x.ix ∈ D) → ∃ E', Sim C N E0 s0 w0 (c + d) D E' w act ad
  | 0, _, E, I, _, _ => ⟨E, I⟩
  | d + 1, c, _, I, h, hin => by
    have hx := List.getElem?_eq_getElem (show c < C.l.length by omega)
    obtain ⟨E1, I1⟩ := I.absorb1 hN hx (hin c _ (Nat.le_refl _) (by omega) hx)
    obtain ⟨E2, I2⟩ := Sim.absorb hN d I1 (by omega) fun j y h1 h2 => hin j y (by omega) (by omega)
    exact ⟨E2, by rw [show c + (d + 1) = c + 1 + d by omega]; exact I2⟩
/-- An operation that acts, in its turn. -/
theorem Sim.act1 (R : RecOk N P rec) (I : Sim C N E0 s0 w0 c D E w act ad) (hN : N ≤ w0.heap.size) {x : Sp} (hx : C.l[c]? = some x) (hk : x.kd = .acts) (hi : x.ix ∉ D) (hanc : ∀ k, Nat.testBit x.ms k = true → k ∈ D)
    {b : Frame} {k : List Item} {cs : List Frame} {rest : List Nat} (hb : Calm C.rd b cs) :
    ∃ E' act' w', Sim C N E0 s0 w0 (c + 1) (x.ix :: D) E' w' act' ad ∧ Steps P (lone (b.atR act (.inRegion C.A (x.ix :: rest) :: k)) cs w) (lone (b.atR act' (.inRegion C.A rest :: k)) cs w') := by
  have hcl := getElem?_lt hx
  have nomp : C.Mp D ad E c c := fun j h1 h2 => by omega
  obtain ⟨hop, hkd, hms⟩ := C.K.op c x hx
  have hst := (C.W.step c x hx).1
  rw [(C.a c).eta] at hst
  have hnn : (C.a c).nn = (C.a 0).nn := C.W.size C.hn c (Nat.le_of_lt hcl)
  obtain ⟨E', v, v', df', dc, w', hS, hv, hdf, hput, hsteps⟩ := oper_core R I.stp.rel hop (I.seen hx hi hanc (.refl E) nomp) (fun r hw => I.wan hx hi hanc (.refl E) nomp hw) I.dfr hst (k := k) (rest := rest) hb
  obtain ⟨tm', e, g1, g2⟩ := put_get (by rw [hnn]; exact C.hn) hput
  refine ⟨E', _, w', ?_, hsteps⟩
  have at_c : ∀ (j : Nat) (y : Sp), C.l[j]? = some y → y.ix = x.ix → j = c ∧ y = x := by
    intro j y hy e
    have := C.K.inj j c y x hy hx e
    subst this
    rw [hx] at hy; cases hy
    exact ⟨rfl, rfl⟩
  have sub : ∀ i ∈ D, i ∈ x.ix :: D := fun i h => List.mem_cons_of_mem _ h
  have em_ne : ∀ {j}, C.Em (x.ix :: D) j → j ≠ c := by
    intro j ⟨y, h1, _, h3, _⟩ e
    subst e
    rw [hx] at h1; cases h1
    rw [hk] at h3; cases h3
  have em_back : ∀ {j}, C.Em (x.ix :: D) j → C.Em D j := by
    intro j he
    obtain ⟨y, h1, h2, h3⟩ := he
    rcases List.mem_cons.1 h2 with e | h2
    · exact absurd (at_c j y h1 e).1 (em_ne ⟨y, h1, by rw [e]; exact List.mem_cons_self, h3⟩)
    · exact ⟨y, h1, h2, h3⟩
  have em_ge : ∀ {j}, c ≤ j → C.Em D j → c + 1 ≤ j := by
    intro j hj he
    have := em_ne (he.mono sub)
    omega
  have mp : ∀ {E2 : En} {q : Nat}, C.Mp (x.ix :: D) ad E2 (c + 1) q → C.Mp D ad E2 c q := fun h j h1 h2 he => h j (em_ge h1 he) h2 (he.mono sub)
  have X := hS.ext
  have keepAd : ∀ {j}, c ≤ j → C.Em D j → w'.heap[(ad j).1]? = w.heap[(ad j).1]? := by
    intro j hj he
    have F := I.made j hj he
    exact hS.kept _ F.lt fun b o hb hr => F.alone b o hb (fun e => by subst e; exact hr)
  refine ⟨I.stp.trans hS, hcl, fun i hin k hbit => ?_, fun m y hm hy => ?_, fun m y hm hy hka hin => ?_, fun m y t hy hin hd E2 X2 hp => ?_, fun t ht => ?_, by rw [put_size]; exact I.size, ?_, fun j y hj hy hin hky => ?_, fun j hj he => ?_, fun j j' hj hj' he he' hne => I.mkd j j' (by omega) (by omega) (em_back he) (em_back he') hne⟩
  · rcases List.mem_cons.1 hin with e | hin
    · subst e
      rw [← hms] at hbit
      exact sub _ (hanc k hbit)
    · exact sub _ (I.dn i hin k hbit)
  · by_cases e : m = c
    · subst e
      rw [hx] at hy
      cases hy
      exact List.mem_cons_self
    · exact sub _ (I.done m y (by omega) hy)
  · rcases List.mem_cons.1 hin with e | hin
    · have := (at_c m y hy e).1
      omega
    · exact I.acts m y (by omega) hy hka hin
  · rcases List.mem_cons.1 hin with e1 | hin
    · obtain ⟨rfl, rfl⟩ := at_c m y hy e1
      have ht := g2 t hd
      rw [hd, put_same (act := { act with defers := dc }) (show t < act.tmps.size by rw [I.size, ← hnn]; exact ht.1), ← C.W.own C.K C.hn hx hd (Nat.lt_succ_self m) hcl, e]
      show VR E2 (orUndef (tm'.get t)) v'
      rw [ht.2]
      exact hv.ext X2
    · have hne : x.op.dst ≠ some t := fun e => hi (by
        rw [← C.K.dst _ _ _ _ t (C.K.op m y hy).1 hop hd e]; exact hin)
      rw [put_other (act := { act with defers := dc }) hne]
      exact I.t1 m y t hy hin hd E2 (X.trans X2) (mp hp)
  · rw [put_other (act := { act with defers := dc }) (ht c x hx List.mem_cons_self)]
    exact (I.t0 t fun q y hy hin => ht q y hy (sub _ hin)).ext X
  · rw [put_df, e]
    exact hdf
  · rcases List.mem_cons.1 hin with e1 | hin
    · have := (at_c j y hy e1).1
      omega
    · obtain ⟨h1, h2⟩ := I.still j y (by omega) hy hin hky
      exact ⟨h1.imp (fun h => h.mono sub) id, h2⟩
  · have he' := em_back he
    have F := I.made j (by omega) he'
    obtain ⟨ob, f1, f2, f3, f4, f5⟩ := F.ob
    refine ⟨F.nx, Nat.lt_of_lt_of_le F.lt hS.size, F.ge, fun b1 o hb1 hd => ?_, ob, f1, f2, f3, f4, fun E2 X2 hnx hp w2 hw2 => f5 E2 (X.trans X2) hnx (mp hp) w2 (by rw [hw2]; exact keepAd (by omega) he')⟩
    by_cases hr : o.rw
    · rcases hS.prov b1 o hb1 hr with h1 | ⟨b0, o0, h1, h2, h3⟩
      · have := F.lt
        omega
      · rw [← h3]
        exact F.alone b0 o0 h1 (fun e => by subst e; exact h2)
    · have h1 := hS.rel.ro b1 o hb1 hd hr
      have h2 := F.ge
      omega
end
end Go.Ev
