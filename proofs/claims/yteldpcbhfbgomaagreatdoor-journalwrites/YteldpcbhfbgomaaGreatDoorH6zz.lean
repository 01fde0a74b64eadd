import Derived.Test.YteldpcbhfbgomaaGreatDoorH4zz
namespace Go.Ev
open Go
section
variable {P : Program} {rec : Rec} {C : Cx P rec} {N : Nat} {E0 : En} {s0 : St} {w0 : World} {c : Nat} {D : List Nat} {E : En} {w : World} {act : Act} {ad : Nat → Nat × Nat}
theorem Cx.past (C : Cx P rec) {c : Nat} : ∀ (d : Nat), c + d ≤ C.l.length → ∃ ext : Past, C.pa (c + d) = ext ++ C.pa c ∧ ∀ q ∈ ext, ∃ (j : Nat) (y : Sp), c ≤ j ∧ C.l[j]? = some y ∧ y.kd = .acts ∧ q.1 = some y.ix
 | 0, _ => ⟨[], rfl, fun q hq => by cases hq⟩
 | d + 1, h => by
  obtain ⟨ext, h1, h2⟩ := C.past (c := c) d (by omega)
  have hx := List.getElem?_eq_getElem (show c + d < C.l.length by omega)
  by_cases hk : (C.l[c + d]'(by omega)).kd = .acts
  ·refine ⟨(some (C.l[c + d]'(by omega)).ix, C.s (c + d + 1)) :: ext, ?_, fun q hq => ?_⟩
   ·rw [show c + (d + 1) = c + d + 1 by omega, C.W.act _ _ hx hk, h1]; rfl
   ·rcases List.mem_cons.1 hq with rfl | hq
    ·exact ⟨c + d, _, by omega, hx, hk, rfl⟩
    ·exact h2 q hq
  ·exact ⟨ext, by rw [show c + (d + 1) = c + d + 1 by omega, C.W.still _ _ hx hk, h1], h2⟩
theorem stood_at {op : Op} {tm : Tr Value} {u : Option Value} {mm : Nat} {q : Option Nat} {st : St} {ps : Past} : ∀ {ext : Past}, stood P op tm u mm (ext ++ (q, st) :: ps) = true → (∀ p ∈ ext, ∃ i, p.1 = some i ∧ Nat.testBit mm i = false) → agrees u (exec P op tm st) = true
 | [], h, _ => by
  simp only [List.nil_append, stood] at h
  cases e : agrees u (exec P op tm st) with
  | true => rfl
  | false => rw [e] at h; cases h
 | (q1, s1) :: ext, h, hn => by
  obtain ⟨i, e1, e2⟩ := hn _ List.mem_cons_self
  have e1' : q1 = some i := e1
  subst e1'
  have h' : cond (agrees u (exec P op tm s1)) (cond (Nat.testBit mm i) true (stood P op tm u mm (ext ++ (q, st) :: ps))) false = true := h
  cases e : agrees u (exec P op tm s1) with
  | false => rw [e] at h'; cases h'
  | true =>
   rw [e, e2] at h'
   exact stood_at (show stood P op tm u mm (ext ++ (q, st) :: ps) = true from h') fun p hp => hn p (List.mem_cons_of_mem _ hp)
theorem Obs.ext {E E2 : En} {s : St} {w : World} (h : Obs E s w) (X : Ext E E2) : Obs E2 s w :=
 ⟨fun b o hb => ⟨Nat.lt_of_lt_of_le (h.ob b o hb).1 X.nx, (h.ob b o hb).2.keep X (h.ob b o hb).1 rfl⟩⟩
theorem value_inj {w w1 w2 : World} {v1 v2 : Value} {m : Sem Next} (h1 : m.run P w = .ok (.value v1) w1) (h2 : m.run P w = .ok (.value v2) w2) : v1 = v2 ∧ w1 = w2 := by
 rw [h1] at h2
 cases h2
 exact ⟨rfl, rfl⟩
theorem push_inj {α : Type} {a : Array α} {x y : α} (h : a.push x = a.push y) : x = y := by
 have := congrArg (fun b => b[a.size]?) h
 simpa using this
theorem Sim.pre (I : Sim C N E0 s0 w0 c D E w act ad) (hps : ∃ q ps, C.pa c = (q, C.s c) :: ps) {m : Nat} {x : Sp} (hx : C.l[m]? = some x) (hk : x.kd ≠ .acts) (hi : x.ix ∉ D) (hanc : ∀ k, Nat.testBit x.ms k = true → k ∈ D)
  {b : Frame} {k : List Item} {cs : List Frame} {rest : List Nat} :
  ∃ act' w' ad', Sim C N E0 s0 w0 c (x.ix :: D) E w' act' ad' ∧ Steps P (lone (b.atR act (.inRegion C.A (x.ix :: rest) :: k)) cs w) (lone (b.atR act' (.inRegion C.A rest :: k)) cs w') := by
 have hml := getElem?_lt hx
 have hcm : c ≤ m := by
  rcases Nat.lt_or_ge m c with h | h
  ·exact absurd (I.done m x h hx) hi
  ·exact h
 obtain ⟨E2, X2, hnx2, hp2⟩ := I.env hcm (Nat.le_of_lt hml)
 obtain ⟨hop, hkd, hms⟩ := C.K.op m x hx
 have hseen : ∀ {E3 : En}, Ext E E3 → C.Mp D ad E3 c m → Seen E3 (C.a m).tm act.eval x.op.op := fun X hp => I.seen hx hi hanc X hp
 have hnn : (C.a m).nn ≤ 4611686018427387904 := by rw [C.W.size C.hn m (Nat.le_of_lt hml)]; exact C.hn
 have hk' : kindOf P x.op.op ≠ .acts := by rw [← hkd]; exact hk
 have hdefer : ∀ c, x.op.op ≠ .defer c := fun c e => hk' (by rw [e]; rfl)
 have hst := (C.W.step m x hx).1
 rw [(C.a m).eta] at hst
 have mem_m : x.ix ∈ x.ix :: D := List.mem_cons_self
 have sub : ∀ i ∈ D, i ∈ x.ix :: D := fun i h => List.mem_cons_of_mem _ h
 have em_ne : ∀ {j}, C.Em D j → j ≠ m := by
  intro j ⟨y, h1, h2, _⟩ e
  subst e
  rw [hx] at h1; cases h1
  exact hi h2
 have em_kd : C.Em (x.ix :: D) m → x.kd = .makes ∧ wants C.A.toList (C.a m).tm x.op.guard = some true := by
  intro ⟨y, h1, _, h3, h4⟩
  rw [hx] at h1; cases h1
  exact ⟨h3, h4⟩
 rcases oper_still hk' (hseen X2 hp2) hst with ⟨hw, hput, hs⟩ | ⟨hw, v, hex, hput, hsame⟩
 · -- not wanted
  obtain ⟨tm', e, _, g2⟩ := put_get hnn hput
  refine ⟨act.put x.op.dst undef, w, ad, I.add hx hk hi hanc I.stp (fun _ _ => rfl) (Nat.le_refl _) (fun _ _ => rfl) ⟨.inr hs, by rw [e]; rfl⟩ (fun t ht => ⟨?_, fun E3 _ _ => ?_⟩) (fun he => ?_), step_skip hop (I.wan hx hi hanc X2 hp2 hw)⟩
  ·rw [← C.W.size C.hn m (Nat.le_of_lt hml)]; exact (g2 t ht).1
  ·rw [e]
   show VR E3 (orUndef (tm'.get t)) undef
   rw [(g2 t ht).2]
   exact .undef
  ·have := (em_kd he).2
   rw [hw] at this; cases this
 ·have hwant := I.wan hx hi hanc X2 hp2 hw
  obtain ⟨tm', e, _, g2⟩ := put_get hnn hput
  have htm : ∀ t, x.op.dst = some t → orUndef ((C.a (m + 1)).tm.get t) = v := by
   intro t ht
   rw [e]
   show orUndef (tm'.get t) = v
   rw [(g2 t ht).2]; rfl
  have hlt : ∀ t, x.op.dst = some t → t < (C.a 0).nn := fun t ht => by rw [← C.W.size C.hn m (Nat.le_of_lt hml)]; exact (g2 t ht).1
  have mp0 : ∀ {E3 : En} {q : Nat}, C.Mp (x.ix :: D) ad E3 c q → C.Mp D ad E3 c q := fun h j h1 h2 he => h j h1 h2 (he.mono sub)
  have plain : x.kd ≠ .makes → ∀ v', (execOp act.eval x.op).run P w = .ok (.value v') w → (∀ E3, Ext E E3 → C.Mp D ad E3 c m → VR E3 v v') →
    ∃ act' w' ad', Sim C N E0 s0 w0 c (x.ix :: D) E w' act' ad' ∧ Steps P (lone (b.atR act (.inRegion C.A (x.ix :: rest) :: k)) cs w) (lone (b.atR act' (.inRegion C.A rest :: k)) cs w') := by
   intro hnm v' hrun hvr
   refine ⟨act.put x.op.dst v', w, ad, I.add hx hk hi hanc I.stp (fun _ _ => rfl) (Nat.le_refl _) (fun _ _ => rfl) ⟨.inr (hsame (by rw [← hkd]; exact hnm)), by rw [e]; rfl⟩ (fun t ht => ⟨hlt t ht, fun E3 X hp => ?_⟩) (fun he => absurd (em_kd he).1 hnm), step_val hop hdefer hwant hrun⟩
   rw [htm t ht]
   exact hvr E3 X fun j h1 h2 he => mp0 hp j h1 (by omega) he
  cases hkk : x.kd with
  | acts => exact absurd hkk hk
  | none =>
   have hk0 : kindOf P x.op.op = .none := by rw [← hkd]; exact hkk
   have each : ∀ {E3 : En}, Ext E E3 → C.Mp D ad E3 c m → ∃ v', VR E3 v v' ∧ (execOp act.eval x.op).run P w = .ok (.value v') w := by
    intro E3 X hp
    rcases exec_pure x.op (hseen X hp) hk0 with hno | ⟨v1, v', h1, h2, h3⟩
    ·rw [show exec P x.op.op (C.a m).tm (C.s m) = .no from hno _] at hex; cases hex
    ·rw [show exec P x.op.op (C.a m).tm (C.s m) = .ok (.val v1) (C.s m) from h1 _] at hex
     injection hex with h4 h5
     injection h4 with h4
     subst h4
     exact ⟨v', h2, h3 w⟩
   obtain ⟨v', _, hrun⟩ := each X2 hp2
   refine plain (by rw [hkk]; intro h; cases h) v' hrun fun E3 X hp => ?_
   obtain ⟨v2, h1, h2⟩ := each X hp
   rw [(value_inj hrun h2).1]; exact h1
  | reads =>
   have hk0 : kindOf P x.op.op = .reads := by rw [← hkd]; exact hkk
   obtain ⟨q, ps, hpa⟩ := hps
   obtain ⟨ext, hx1, hx2⟩ := C.past (c := c) (m - c) (by omega)
   rw [show c + (m - c) = m by omega, hpa] at hx1
   have hso := C.W.rd m x hx hkk
   have hso' : stood P x.op.op (C.a m).tm (getD (C.a (m + 1)).tm x.op.dst) x.ms (C.pa m) = true := by
    have h1 : stoodO P C.A.toList (C.pa m) x.op x.ms (C.a m) (C.a (m + 1)) = (match wants C.A.toList (C.a m).tm x.op.guard with
     | some true => stood P x.op.op (C.a m).tm (getD (C.a (m + 1)).tm x.op.dst) x.ms (C.pa m)
     | some false => true
     | none => false) := by
     generalize C.a m = a1
     generalize C.a (m + 1) = a2
     generalize x.op = o
     obtain ⟨_, _, _, _, _, _⟩ := o
     cases a1
     cases a2
     rfl
    rw [h1, hw] at hso
    exact hso
   rw [hx1] at hso'
   have hag := stood_at hso' fun p hp => by
    obtain ⟨j, y, h1, h2, h3, h4⟩ := hx2 p hp
    refine ⟨y.ix, h4, ?_⟩
    cases hb : Nat.testBit x.ms y.ix with
    | false => rfl
    | true => exact absurd (hanc _ hb) (I.acts j y h1 h2 h3)
   have hexc : ∃ s1, exec P x.op.op (C.a m).tm (C.s c) = .ok (.val v) s1 := by
    unfold agrees at hag
    split at hag
    ·rename_i u v1 s1 hu he
     have e1 := eqV_eq 5 _ _ hag
     subst e1
     refine ⟨s1, ?_⟩
     rw [he]
     cases hd : x.op.dst with
     | none => rw [hd] at hu; cases hu
     | some t =>
      rw [hd] at hu
      have hu' : (C.a (m + 1)).tm.get t = some u := hu
      rw [e] at hu'
      have hu2 : tm'.get t = some u := hu'
      rw [(g2 t hd).2] at hu2
      cases hu2
      rfl
    ·cases hag
   obtain ⟨s1, hexc⟩ := hexc
   have each : ∀ {E3 : En}, Ext E E3 → C.Mp D ad E3 c m → ∃ v', VR E3 v v' ∧ (execOp act.eval x.op).run P w = .ok (.value v') w := by
    intro E3 X hp
    obtain ⟨_, v1, v', h1, h2, h3⟩ := exec_reads (I.stp.rel.obs.ext X) x.op (hseen X hp) hk0 hexc
    cases h1
    exact ⟨v', h2, h3⟩
   obtain ⟨v', _, hrun⟩ := each X2 hp2
   refine plain (by rw [hkk]; intro h; cases h) v' hrun fun E3 X hp => ?_
   obtain ⟨v2, h1, h2⟩ := each X hp
   rw [(value_inj hrun h2).1]; exact h1
  | makes =>
   have hk0 : kindOf P x.op.op = .makes := by rw [← hkd]; exact hkk
   have hem : C.Em (x.ix :: D) m := ⟨x, hx, mem_m, hkk, hw⟩
   obtain ⟨ob, vf, hv0, hnx, hs1, hall⟩ := exec_makes x.op (hseen X2 hp2) hk0 hex
   obtain ⟨w1, o1, vf', sz, hrun, hpush, hos, htp, hout, M⟩ := hall w
   have hgob : (C.s (m + 1)).hp.get (C.s m).nx = some ob := by
    rw [hs1]
    show ((C.s m).hp.set ob (C.s m).nx).get (C.s m).nx = _
    rw [Tr.get_set _ _ _ (by omega), if_pos rfl]
   have each : ∀ {E3 : En}, Ext E E3 → C.Mp D ad E3 c m → E3.nx = (C.s m).nx → (∀ w2 : World, w2.heap[w.heap.size]? = some o1 → ObR (E3.push w.heap.size 0 o1.cellsN) E3.nx w2 ob) ∧ VR (E3.push w.heap.size 0 o1.cellsN) v (vf' w.heap.size) := by
    intro E3 X hp hnx3
    obtain ⟨ob3, vf3, hv3, _, hs3, hall3⟩ := exec_makes x.op (hseen X hp) hk0 hex
    obtain ⟨w3, o3, vf3', sz3, hrun3, hpush3, _, _, _, M3⟩ := hall3 w
    obtain ⟨e1, e2⟩ := value_inj hrun hrun3
    subst e2
    have e3 : o1 = o3 := push_inj (hpush.symm.trans hpush3)
    subst e3
    have e4 : ob3 = ob := by
     have : (C.s (m + 1)).hp.get (C.s m).nx = some ob3 := by
      rw [hs3]
      show ((C.s m).hp.set ob3 (C.s m).nx).get (C.s m).nx = _
      rw [Tr.get_set _ _ _ (by omega), if_pos rfl]
     rw [hgob] at this
     exact (Option.some.inj this).symm
    subst e4
    have e5 := M3.szo
    subst e5
    refine ⟨fun w2 hw2 => M3.ob E3 w.heap.size w2 (.refl E3) hw2, ?_⟩
    have := M3.vr E3 w.heap.size (.refl E3)
    rw [← e1, hnx3] at this
    have hv3' : v = vf3 (C.s m).nx := by injection hv3
    rw [← hv3'] at this
    exact this
   have hsz1 : w1.heap.size = w.heap.size + 1 := by rw [hpush]; simp
   have hold : ∀ B, B < w.heap.size → w1.heap[B]? = w.heap[B]? := fun B hB => by rw [hpush, Array.getElem?_push, if_neg (by omega)]
   have hnew : w1.heap[w.heap.size]? = some o1 := by rw [hpush]; simp
   let ad' : Nat → Nat × Nat := fun j => if j = m then (w.heap.size, o1.cellsN) else ad j
   have had : ∀ j, j ≠ m → ad' j = ad j := fun j hj => if_neg hj
   have hadm : ad' m = (w.heap.size, o1.cellsN) := if_pos rfl
   have mp : ∀ {E3 : En} {q : Nat}, C.Mp (x.ix :: D) ad' E3 c q → C.Mp D ad E3 c q := by
    intro E3 q h j h1 h2 he
    have := h j h1 h2 (he.mono sub)
    rw [had j (em_ne he)] at this
    exact this
   have hnxm : (C.s (m + 1)).nx = (C.s m).nx + 1 := by rw [hs1]; rfl
   refine ⟨act.put x.op.dst (vf' w.heap.size), w1, ad', I.add hx hk hi hanc (I.stp.pushed hpush hos htp hout) hold (by omega) had ⟨.inl hem, by rw [e]; rfl⟩ (fun t ht => ⟨hlt t ht, fun E3 X hp => ?_⟩) (fun _ => ⟨⟨hnxm, ?_, ?_, ?_, ob, hnx, hs1, M.grp, M.rw, ?_⟩, ?_⟩), step_val hop hdefer hwant hrun⟩
   ·rw [htm t ht]
    obtain ⟨q1, q2, q3, q4⟩ := hp m hcm (Nat.lt_succ_self _) hem
    rw [hadm] at q2 q4
    have hcn : E.nx ≤ (C.s m).nx := by rw [I.nxE]; exact C.W.nx' hcm (Nat.le_of_lt hml)
    have X4 : Ext E { E3 with nx := (C.s m).nx } := ⟨hcn, X.ι, X.sh, X.sz⟩
    have hp4 : C.Mp D ad { E3 with nx := (C.s m).nx } c m := by
     intro j h1 h2 he
     obtain ⟨_, k2, k3, k4⟩ := mp hp j h1 (by omega) he
     have h3 := (I.made j h1 he).nx
     have h4 := C.W.nx' (show j + 1 ≤ m by omega) (Nat.le_of_lt hml)
     exact ⟨by show (C.s j).nx < (C.s m).nx; omega, k2, k3, k4⟩
    have hv4 := (each X4 hp4 rfl).2
    refine VR.ext (E := En.push { E3 with nx := (C.s m).nx } w.heap.size 0 o1.cellsN) (E' := E3) ⟨q1, fun b hb => ?_, fun b hb => ?_, fun b hb => ?_⟩ hv4
    all_goals
     have hb' : b < (C.s m).nx + 1 := hb
     by_cases eb : b = (C.s m).nx
    ·subst eb; rw [q2]; exact (if_pos rfl).symm
    ·exact (if_neg eb).symm
    ·subst eb; rw [q3]; exact (if_pos rfl).symm
    ·exact (if_neg eb).symm
    ·subst eb; rw [q4]; exact (if_pos rfl).symm
    ·exact (if_neg eb).symm
   ·rw [hadm, hsz1]; exact Nat.lt_succ_self _
   ·rw [hadm]; exact I.stp.size
   ·rw [hadm]
    intro b1 o hb hd e
    have := (I.stp.rel.ob b1 o hb).2.lt hd
    have e' : E.ι b1 = w.heap.size := e
    omega
   ·intro E3 X hnx3 hp w2 hw2
    rw [hadm] at hw2 ⊢
    exact (each X (mp hp) hnx3).1 w2 (by rw [hw2]; exact hnew)
   ·intro j hj he
    rw [hadm]
    have := (I.made j hj he).lt
    intro e
    have e' : (ad j).1 = w.heap.size := e
    omega
end
end Go.Ev
namespace Go.Ev
open Go
theorem Stp.absorb {N : Nat} {E0 E : En} {s0 s : St} {w0 w : World} (h : Stp N E0 s0 w0 E s w) (hn : s.nx < s.nx + 1) {o : Ob} {a sz : Nat} (hg : o.grp = 0) (hrw : o.rw) (h0 : w0.heap.size ≤ a) (hN : N ≤ a)
  (hf : ∀ b o, s.hp.get b = some o → o ≠ .dead → E.ι b ≠ a) (ho : ObR (E.push a 0 sz) E.nx w o) :
  Stp N E0 s0 w0 (E.push a 0 sz) (.mk (s.hp.set o s.nx) (s.nx + 1) s.gr) w := by
 have X := En.push_ext E a 0 sz
 have r := h.rel
 refine ⟨h.ext.trans X, rel_absorb r hn hg hrw hN hf ho, h.os, h.tape, h.output, h.size, h.kept, fun b ob hb hr => ?_⟩
 have gets : (s.hp.set o s.nx).get b = if b = E.nx then some o else s.hp.get b := by
  rw [Tr.get_set _ _ _ (by have := r.hi; have := r.nx; omega), r.nx]
 rw [show (St.mk (s.hp.set o s.nx) (s.nx + 1) s.gr).hp = s.hp.set o s.nx from rfl, gets] at hb
 split at hb
 ·rename_i e
  subst e
  rw [En.push_ι]
  exact .inl h0
 ·rw [X.ι b (r.ob b ob hb).1]
  exact h.prov b ob hb hr
section
variable {P : Program} {rec : Rec} {C : Cx P rec} {N : Nat} {E0 : En} {s0 : St} {w0 : World} {c : Nat} {D : List Nat} {E : En} {w : World} {act : Act} {ad : Nat → Nat × Nat}
theorem Sim.absorb1 (I : Sim C N E0 s0 w0 c D E w act ad) (hN : N ≤ w0.heap.size) {x : Sp} (hx : C.l[c]? = some x) (hin : x.ix ∈ D) : ∃ E', Sim C N E0 s0 w0 (c + 1) D E' w act ad := by
 have hcl := getElem?_lt hx
 have hk : x.kd ≠ .acts := fun e => I.acts c x (Nat.le_refl _) hx e hin
 obtain ⟨hst, hdf⟩ := I.still c x (Nat.le_refl _) hx hin hk
 have key : ∀ E', Ext E E' → Stp N E0 s0 w0 E' (C.s (c + 1)) w → (C.Em D c → (C.s c).nx < E'.nx ∧ E'.ι (C.s c).nx = (ad c).1 ∧ E'.sh (C.s c).nx = 0 ∧ E'.sz (C.s c).nx = (ad c).2) →
   (∀ j, c + 1 ≤ j → C.Em D j → ∀ b o, (C.s (c + 1)).hp.get b = some o → o ≠ .dead → E'.ι b ≠ (ad j).1) → Sim C N E0 s0 w0 (c + 1) D E' w act ad := by
  intro E' X hS hem hal
  have mp : ∀ {E2 : En} {q : Nat}, Ext E' E2 → C.Mp D ad E2 (c + 1) q → C.Mp D ad E2 c q := by
   intro E2 q X2 h j h1 h2 he
   by_cases e : j = c
   ·subst e
    obtain ⟨k1, k2, k3, k4⟩ := hem he
    exact ⟨Nat.lt_of_lt_of_le k1 X2.nx, by rw [X2.ι _ k1]; exact k2, by rw [X2.sh _ k1]; exact k3, by rw [X2.sz _ k1]; exact k4⟩
   ·exact h j (by omega) h2 he
  refine ⟨hS, hcl, I.dn, fun m y hm hy => ?_, fun m y hm hy hka => I.acts m y (by omega) hy hka, fun m y t hy hyin hd E2 X2 hp => I.t1 m y t hy hyin hd E2 (X.trans X2) (mp X2 hp), fun t ht => (I.t0 t ht).ext X, I.size, by rw [hdf]; exact I.dfr.ext X,
   fun j y hj hy hyin hky => I.still j y (by omega) hy hyin hky, fun j hj he => ?_, fun j j' hj hj' he he' hne => I.mkd j j' (by omega) (by omega) he he' hne⟩
  ·by_cases e : m = c
   ·subst e
    rw [hx] at hy
    cases hy
    exact hin
   ·exact I.done m y (by omega) hy
  ·have F := I.made j (by omega) he
   obtain ⟨ob, f1, f2, f3, f4, f5⟩ := F.ob
   exact ⟨F.nx, F.lt, F.ge, hal j hj he, ob, f1, f2, f3, f4, fun E2 X2 hnx hp w2 hw2 => f5 E2 (X.trans X2) hnx (mp X2 hp) w2 hw2⟩
 by_cases hem : C.Em D c
 ·have F := I.made c (Nat.le_refl _) hem
  obtain ⟨ob, f1, f2, f3, f4, f5⟩ := F.ob
  have hobr := f5 E (.refl E) I.nxE (fun j h1 h2 => by omega) w rfl
  have hS := I.stp.absorb f1 f3 f4 F.ge (Nat.le_trans hN F.ge) F.alone hobr
  rw [← f2] at hS
  have hsc : (C.s c).nx = E.nx := I.nxE.symm
  refine ⟨E.push (ad c).1 0 (ad c).2, key _ (En.push_ext _ _ _ _) hS (fun _ => ?_) fun j hj he b o hb hd => ?_⟩
  ·rw [hsc]
   exact ⟨Nat.lt_succ_self _, En.push_ι _ _ _ _, En.push_sh _ _ _ _, En.push_sz _ _ _ _⟩
  ·rw [f2] at hb
   have gets : ((C.s c).hp.set ob (C.s c).nx).get b = if b = E.nx then some ob else (C.s c).hp.get b := by
    rw [Tr.get_set _ _ _ (by omega), hsc]
   rw [show (St.mk ((C.s c).hp.set ob (C.s c).nx) ((C.s c).nx + 1) (C.s c).gr).hp = (C.s c).hp.set ob (C.s c).nx from rfl, gets] at hb
   split at hb
   ·rename_i e
    subst e
    rw [En.push_ι]
    exact I.mkd c j (Nat.le_refl _) (by omega) hem he (by omega)
   ·rw [(En.push_ext E (ad c).1 0 (ad c).2).ι b (I.stp.rel.ob b o hb).1]
    exact (I.made j (by omega) he).alone b o hb hd
 ·have hs : C.s (c + 1) = C.s c := hst.resolve_left hem
  refine ⟨E, key E (.refl E) (by rw [hs]; exact I.stp) (fun h => absurd h hem) fun j hj he => ?_⟩
  rw [hs]
  exact (I.made j (by omega) he).alone
theorem Sim.absorb (hN : N ≤ w0.heap.size) : ∀ (d : Nat) {c : Nat} {E : En}, Sim C N E0 s0 w0 c D E w act ad → c + d ≤ C.l.length → (∀ (j : Nat) (x : Sp), c ≤ j → j < c + d → C.l[j]? = some x → x.ix ∈ D) → ∃ E', Sim C N E0 s0 w0 (c + d) D E' w act ad
 | 0, _, E, I, _, _ => ⟨E, I⟩
 | d + 1, c, _, I, h, hin => by
  have hx := List.getElem?_eq_getElem (show c < C.l.length by omega)
  obtain ⟨E1, I1⟩ := I.absorb1 hN hx (hin c _ (Nat.le_refl _) (by omega) hx)
  obtain ⟨E2, I2⟩ := Sim.absorb hN d I1 (by omega) fun j y h1 h2 => hin j y (by omega) (by omega)
  exact ⟨E2, by rw [show c + (d + 1) = c + 1 + d by omega]; exact I2⟩
theorem Sim.act1 (R : RecOk N P rec) (I : Sim C N E0 s0 w0 c D E w act ad) (hN : N ≤ w0.heap.size) {x : Sp} (hx : C.l[c]? = some x) (hk : x.kd = .acts) (hi : x.ix ∉ D) (hanc : ∀ k, Nat.testBit x.ms k = true → k ∈ D)
  {b : Frame} {k : List Item} {cs : List Frame} {rest : List Nat} (hb : Calm C.rd b cs) :
  ∃ E' act' w', Sim C N E0 s0 w0 (c + 1) (x.ix :: D) E' w' act' ad ∧ Steps P (lone (b.atR act (.inRegion C.A (x.ix :: rest) :: k)) cs w) (lone (b.atR act' (.inRegion C.A rest :: k)) cs w') := by
 have hcl := getElem?_lt hx
 have nomp : C.Mp D ad E c c := fun j h1 h2 => by omega
 obtain ⟨hop, hkd, hms⟩ := C.K.op c x hx
 have hst := (C.W.step c x hx).1
 rw [(C.a c).eta] at hst
 have hnn : (C.a c).nn = (C.a 0).nn := C.W.size C.hn c (Nat.le_of_lt hcl)
 obtain ⟨E', v, v', df', dc, w', hS, hv, hdf, hput, hsteps⟩ := oper_core R I.stp.rel hop (I.seen hx hi hanc (.refl E) nomp) (fun r hw => I.wan hx hi hanc (.refl E) nomp hw) I.dfr hst (k := k) (rest := rest) hb
 obtain ⟨tm', e, g1, g2⟩ := put_get (by rw [hnn]; exact C.hn) hput
 refine ⟨E', _, w', ?_, hsteps⟩
 have at_c : ∀ (j : Nat) (y : Sp), C.l[j]? = some y → y.ix = x.ix → j = c ∧ y = x := by
  intro j y hy e
  have := C.K.inj j c y x hy hx e
  subst this
  rw [hx] at hy; cases hy
  exact ⟨rfl, rfl⟩
 have sub : ∀ i ∈ D, i ∈ x.ix :: D := fun i h => List.mem_cons_of_mem _ h
 have em_ne : ∀ {j}, C.Em (x.ix :: D) j → j ≠ c := by
  intro j ⟨y, h1, _, h3, _⟩ e
  subst e
  rw [hx] at h1; cases h1
  rw [hk] at h3; cases h3
 have em_back : ∀ {j}, C.Em (x.ix :: D) j → C.Em D j := by
  intro j he
  obtain ⟨y, h1, h2, h3⟩ := he
  rcases List.mem_cons.1 h2 with e | h2
  ·exact absurd (at_c j y h1 e).1 (em_ne ⟨y, h1, by rw [e]; exact List.mem_cons_self, h3⟩)
  ·exact ⟨y, h1, h2, h3⟩
 have em_ge : ∀ {j}, c ≤ j → C.Em D j → c + 1 ≤ j := by
  intro j hj he
  have := em_ne (he.mono sub)
  omega
 have mp : ∀ {E2 : En} {q : Nat}, C.Mp (x.ix :: D) ad E2 (c + 1) q → C.Mp D ad E2 c q := fun h j h1 h2 he => h j (em_ge h1 he) h2 (he.mono sub)
 have X := hS.ext
 have keepAd : ∀ {j}, c ≤ j → C.Em D j → w'.heap[(ad j).1]? = w.heap[(ad j).1]? := by
  intro j hj he
  have F := I.made j hj he
  exact hS.kept _ F.lt fun b o hb hr => F.alone b o hb (fun e => by subst e; exact hr)
 refine ⟨I.stp.trans hS, hcl, fun i hin k hbit => ?_, fun m y hm hy => ?_, fun m y hm hy hka hin => ?_, fun m y t hy hin hd E2 X2 hp => ?_, fun t ht => ?_, by rw [put_size]; exact I.size, ?_, fun j y hj hy hin hky => ?_, fun j hj he => ?_, fun j j' hj hj' he he' hne => I.mkd j j' (by omega) (by omega) (em_back he) (em_back he') hne⟩
 ·rcases List.mem_cons.1 hin with e | hin
  ·subst e
   rw [← hms] at hbit
   exact sub _ (hanc k hbit)
  ·exact sub _ (I.dn i hin k hbit)
 ·by_cases e : m = c
  ·subst e
   rw [hx] at hy
   cases hy
   exact List.mem_cons_self
  ·exact sub _ (I.done m y (by omega) hy)
 ·rcases List.mem_cons.1 hin with e | hin
  ·have := (at_c m y hy e).1
   omega
  ·exact I.acts m y (by omega) hy hka hin
 ·rcases List.mem_cons.1 hin with e1 | hin
  ·obtain ⟨rfl, rfl⟩ := at_c m y hy e1
   have ht := g2 t hd
   rw [hd, put_same (act := { act with defers := dc }) (show t < act.tmps.size by rw [I.size, ← hnn]; exact ht.1), ← C.W.own C.K C.hn hx hd (Nat.lt_succ_self m) hcl, e]
   show VR E2 (orUndef (tm'.get t)) v'
   rw [ht.2]
   exact hv.ext X2
  ·have hne : x.op.dst ≠ some t := fun e => hi (by
    rw [← C.K.dst _ _ _ _ t (C.K.op m y hy).1 hop hd e]; exact hin)
   rw [put_other (act := { act with defers := dc }) hne]
   exact I.t1 m y t hy hin hd E2 (X.trans X2) (mp hp)
 ·rw [put_other (act := { act with defers := dc }) (ht c x hx List.mem_cons_self)]
  exact (I.t0 t fun q y hy hin => ht q y hy (sub _ hin)).ext X
 ·rw [put_df, e]
  exact hdf
 ·rcases List.mem_cons.1 hin with e1 | hin
  ·have := (at_c j y hy e1).1
   omega
  ·obtain ⟨h1, h2⟩ := I.still j y (by omega) hy hin hky
   exact ⟨h1.imp (fun h => h.mono sub) id, h2⟩
 ·have he' := em_back he
  have F := I.made j (by omega) he'
  obtain ⟨ob, f1, f2, f3, f4, f5⟩ := F.ob
  refine ⟨F.nx, Nat.lt_of_lt_of_le F.lt hS.size, F.ge, fun b1 o hb1 hd => ?_, ob, f1, f2, f3, f4, fun E2 X2 hnx hp w2 hw2 => f5 E2 (X.trans X2) hnx (mp hp) w2 (by rw [hw2]; exact keepAd (by omega) he')⟩
  by_cases hr : o.rw
  ·rcases hS.prov b1 o hb1 hr with h1 | ⟨b0, o0, h1, h2, h3⟩
   ·have := F.lt
    omega
   ·rw [← h3]
    exact F.alone b0 o0 h1 (fun e => by subst e; exact h2)
  ·have h1 := hS.rel.ro b1 o hb1 hd hr
   have h2 := F.ge
   omega
end
end Go.Ev
