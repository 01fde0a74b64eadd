import Derived.Test.YtglilbadldocoaaGreatDoorH3zz
namespace Go.Ev
open Go
theorem rel_absorb {N : Nat} {E : En} {s : St} {w : World} (h : Rel N E s w) (hn : s.nx < s.nx + 1) {o : Ob} {a sz : Nat} (hg : o.grp = 0) (hrw : o.rw) (hN : N ≤ a)
  (hf : ∀ b o, s.hp.get b = some o → o ≠ .dead → E.ι b ≠ a) (ho : ObR (E.push a 0 sz) E.nx w o) :
  Rel N (E.push a 0 sz) (.mk (s.hp.set o s.nx) (s.nx + 1) s.gr) w := by
 have X := En.push_ext E a 0 sz
 have gets : ∀ b, (s.hp.set o s.nx).get b = if b = E.nx then some o else s.hp.get b := fun b => by
  rw [Tr.get_set _ _ _ (by have := h.hi; have := h.nx; omega), h.nx]
 have ι' : ∀ b, b < E.nx → (E.push a 0 sz).ι b = E.ι b := X.ι
 have hp0 : (St.mk (s.hp.set o s.nx) (s.nx + 1) s.gr).hp = s.hp.set o s.nx := rfl
 refine ⟨by show s.nx + 1 = E.nx + 1; rw [h.nx], Nat.le_trans h.lo (Nat.le_succ _), by show E.nx + 1 ≤ E.nx + 1 + 1; rw [← h.nx]; omega, fun b hb => ?_, h.flr, fun b ob hb => ?_, fun b ob hb hr => ?_, fun b ob b' ob' hb hb' hr hd hne he => ?_, fun b ob hb hgr => ?_, fun b ob hb hd hr => ?_⟩
 ·have hb' : b < E.nx := Nat.lt_of_lt_of_le hb h.lo
  rw [X.ι b hb', X.sh b hb']; exact h.base b hb
 ·rw [hp0, gets] at hb
  split at hb
  ·rename_i e; cases hb; subst e; exact ⟨Nat.lt_succ_self _, ho⟩
  ·obtain ⟨h1, h2⟩ := h.ob b ob hb
   exact ⟨Nat.lt_succ_of_lt h1, h2.keep X h1 rfl⟩
 ·rw [hp0, gets] at hb
  split at hb
  ·rename_i e; subst e; rw [En.push_ι]; exact hN
  ·rw [ι' b (h.ob b ob hb).1]; exact h.flo b ob hb hr
 ·rw [hp0, gets] at hb hb'
  split at hb
  ·rename_i e
   subst e
   rw [if_neg (fun e => hne e.symm)] at hb'
   rw [En.push_ι, ι' b' (h.ob b' ob' hb').1] at he
   exact absurd he.symm (hf b' ob' hb' hd)
  ·have h1 := (h.ob b ob hb).1
   split at hb'
   ·rename_i e
    subst e
    rw [En.push_ι, ι' b h1] at he
    exact absurd he (hf b ob hb (fun e => by subst e; exact hr))
   ·have h2 := (h.ob b' ob' hb').1
    rw [ι' b h1, ι' b' h2] at he
    rw [X.sh b h1, X.sh b' h2]
    exact h.dis b ob b' ob' hb hb' hr hd hne he
 ·rw [hp0, gets] at hb
  split at hb
  ·cases hb; exact absurd hg hgr
  ·exact h.grp b ob hb hgr
 ·rw [hp0, gets] at hb
  split at hb
  ·cases hb; exact absurd hrw hr
  ·rw [ι' b (h.ob b ob hb).1]; exact h.ro b ob hb hd hr
theorem Stp.pushed {N : Nat} {E E' : En} {s s' : St} {w w1 w2 : World} (h : Stp N E s w E' s' w1) {o : Obj} (hw : w2.heap = w1.heap.push o) (h1 : w2.os = w1.os) (h2 : w2.tape = w1.tape) (h3 : w2.output = w1.output) : Stp N E s w E' s' w2 := by
 have old : ∀ B, B < w1.heap.size → w2.heap[B]? = w1.heap[B]? := fun B hB => by rw [hw, Array.getElem?_push, if_neg (by omega)]
 have hsz : w2.heap.size = w1.heap.size + 1 := by rw [hw]; simp
 have r := h.rel
 refine ⟨h.ext, ⟨r.nx, r.lo, r.hi, r.base, by rw [hsz]; exact Nat.le_succ_of_le r.flr, fun b ob hb => ?_, r.flo, r.dis, r.grp, r.ro⟩, h1.trans h.os, h2.trans h.tape, h3.trans h.output, by rw [hsz]; exact Nat.le_succ_of_le h.size, fun B hB hn => ?_, h.prov⟩
 ·obtain ⟨k1, k2⟩ := r.ob b ob hb
  refine ⟨k1, ?_⟩
  by_cases e : ob = .dead
  ·subst e; trivial
  ·exact k2.keep (.refl _) k1 (old _ (k2.lt e))
 ·rw [old B (Nat.lt_of_lt_of_le hB h.size)]; exact h.kept B hB hn
theorem opd_seen {E : En} (hlo : 1000 ≤ E.nx) (hbase : ∀ b, b < 1000 → E.ι b = b ∧ E.sh b = 0) {tm : Tr Value} {act : Act} {x : Operand} (ht : ∀ t, x = .tmp t → VR E (orUndef (tm.get t)) (act.tmps.getD t undef)) : VR E (opd tm x) (act.eval x) := by
 cases x with
 | tmp t => exact ht t rfl
 | const v => exact constV_VR E v
 | global g =>
  show VR E (globV g) (.pointer (some ⟨g, 0, none⟩))
  unfold globV
  cases hg : Nat.blt g 1000 with
  | false => exact .any _
  | true =>
   have hg' : g < 1000 := Nat.le_of_ble_eq_true hg
   obtain ⟨h1, h2⟩ := hbase g hg'
   have := VR.ptr (E := E) g 0 (Nat.lt_of_lt_of_le hg' hlo)
   rw [h1, h2] at this
   exact this
 | func f => exact .func f [] [] [] [] .nil .nil
theorem wants_at {E : En} {A : Array Oper} {tm : Tr Value} {act : Act} {o : Oper} (ht : ∀ t ∈ guardT A.toList o.guard, VR E (orUndef (tm.get t)) (act.tmps.getD t undef)) {r : Bool} (hw : wants A.toList tm o.guard = some r) : Region.wanted o (yielded A act.tmps) = r := by
 unfold wants at hw
 unfold Region.wanted
 cases hg : o.guard with
 | none => rw [hg] at hw; cases hw; rfl
 | some p =>
  obtain ⟨j, want⟩ := p
  rw [hg] at hw ht
  simp only at hw ⊢
  have hda : dstAt A.toList j = (A[j]?).bind (·.dst) := by
   unfold dstAt
   rw [Array.getElem?_toList]
   cases A[j]? <;> rfl
  rw [hda] at hw
  unfold yielded
  cases hd : (A[j]?).bind (·.dst) with
  | none => rw [hd] at hw; cases hw; rfl
  | some d =>
   rw [hd] at hw
   have hmem : d ∈ guardT A.toList (some (j, want)) := by
    unfold guardT
    simp only [Array.getElem?_toList]
    cases hj : A[j]? with
    | none => rw [hj] at hd; cases hd
    | some p =>
     rw [hj] at hd
     have : p.dst = some d := hd
     simp [this]
   have hv := ht d hmem
   simp only [Option.bind_some]
   have hget : act.tmps.getD d undef = (act.tmps[d]?).getD undef := by simp [Array.getD_eq_getD_getElem?]
   rw [hget] at hv
   have hw' : (match orUndef (tm.get d) with
    | .bool b => some (eqB want b)
    | .chan _ => none
    | _ => some false) = some r := hw
   split at hw'
   ·rename_i b hb
    rw [hb] at hv
    cases hw'
    have := hv.bool_inv
    cases hq : act.tmps[d]? with
    | none => rw [hq] at this; cases this
    | some u =>
     rw [hq] at this
     simp only [Option.getD_some] at this
     subst this
     cases b <;> cases want <;> rfl
   ·cases hw'
   ·rename_i h1 h2
    cases hw'
    have nb := hv.not_bool (fun b e => h1 b e) (fun r e => h2 r e)
    cases hq : act.tmps[d]? with
    | none => cases want <;> rfl
    | some u =>
     rw [hq] at nb
     simp only [Option.getD_some] at nb
     cases u <;> first | (exact absurd rfl (nb _)) | (cases want <;> rfl)
structure Cx (P : Program) (rec : Rec) where
 rd : Option Nat
 A : Array Oper
 l : List Sp
 a : Nat → Ac
 s : Nat → St
 pa : Nat → Past
 ms : List Nat
 K : PlanOk P A ms l
 W : Run P rec rd A.toList l a s pa
 hn : (a 0).nn ≤ 4611686018427387904
section
variable {P : Program} {rec : Rec} (C : Cx P rec)
def Cx.Em (D : List Nat) (j : Nat) : Prop := ∃ x, C.l[j]? = some x ∧ x.ix ∈ D ∧ x.kd = .makes ∧ wants C.A.toList (C.a j).tm x.op.guard = some true
def Cx.Mp (D : List Nat) (ad : Nat → Nat × Nat) (E : En) (c m : Nat) : Prop :=
 ∀ j, c ≤ j → j < m → C.Em D j → (C.s j).nx < E.nx ∧ E.ι (C.s j).nx = (ad j).1 ∧ E.sh (C.s j).nx = 0 ∧ E.sz (C.s j).nx = (ad j).2
structure Cx.MkF (w0 : World) (E : En) (D : List Nat) (c : Nat) (ad : Nat → Nat × Nat) (w : World) (j : Nat) : Prop where
 nx : (C.s (j + 1)).nx = (C.s j).nx + 1
 lt : (ad j).1 < w.heap.size
 ge : w0.heap.size ≤ (ad j).1
 alone : ∀ b o, (C.s c).hp.get b = some o → o ≠ .dead → E.ι b ≠ (ad j).1
 ob : ∃ ob, (C.s j).nx < (C.s j).nx + 1 ∧ C.s (j + 1) = .mk ((C.s j).hp.set ob (C.s j).nx) ((C.s j).nx + 1) (C.s j).gr ∧ ob.grp = 0 ∧ ob.rw ∧
  ∀ E2, Ext E E2 → E2.nx = (C.s j).nx → C.Mp D ad E2 c j → ∀ w2 : World, w2.heap[(ad j).1]? = w.heap[(ad j).1]? → ObR (E2.push (ad j).1 0 (ad j).2) E2.nx w2 ob
structure Sim (N : Nat) (E0 : En) (s0 : St) (w0 : World) (c : Nat) (D : List Nat) (E : En) (w : World) (act : Act) (ad : Nat → Nat × Nat) : Prop where
 stp : Stp N E0 s0 w0 E (C.s c) w
 cl : c ≤ C.l.length
 dn : ∀ i ∈ D, ∀ k, Nat.testBit (C.ms.getD i 0) k = true → k ∈ D
 done : ∀ (m : Nat) (x : Sp), m < c → C.l[m]? = some x → x.ix ∈ D
 acts : ∀ (m : Nat) (x : Sp), c ≤ m → C.l[m]? = some x → x.kd = .acts → x.ix ∉ D
 t1 : ∀ (m : Nat) (x : Sp) (t : Tmp), C.l[m]? = some x → x.ix ∈ D → x.op.dst = some t → ∀ E2, Ext E E2 → C.Mp D ad E2 c (m + 1) → VR E2 (orUndef ((C.a C.l.length).tm.get t)) (act.tmps.getD t undef)
 t0 : ∀ t, (∀ (m : Nat) (x : Sp), C.l[m]? = some x → x.ix ∈ D → x.op.dst ≠ some t) → VR E (orUndef ((C.a 0).tm.get t)) (act.tmps.getD t undef)
 size : act.tmps.size = (C.a 0).nn
 dfr : DfRs E (C.a c).df act.defers
 still : ∀ (j : Nat) (x : Sp), c ≤ j → C.l[j]? = some x → x.ix ∈ D → x.kd ≠ .acts → (C.Em D j ∨ C.s (j + 1) = C.s j) ∧ (C.a (j + 1)).df = (C.a j).df
 made : ∀ j, c ≤ j → C.Em D j → C.MkF w0 E D c ad w j
 mkd : ∀ j j', c ≤ j → c ≤ j' → C.Em D j → C.Em D j' → j ≠ j' → (ad j).1 ≠ (ad j').1
variable {C}
theorem Cx.Em.mono {D D' : List Nat} (h : ∀ i ∈ D, i ∈ D') {j : Nat} (e : C.Em D j) : C.Em D' j :=
 let ⟨x, h1, h2, h3⟩ := e; ⟨x, h1, h x.ix h2, h3⟩
section
variable {N : Nat} {E0 : En} {s0 : St} {w0 : World} {c : Nat} {D : List Nat} {E : En} {w : World} {act : Act} {ad : Nat → Nat × Nat}
theorem Sim.nxE (I : Sim C N E0 s0 w0 c D E w act ad) : E.nx = (C.s c).nx := I.stp.rel.nx.symm
open Classical in
theorem Sim.env (I : Sim C N E0 s0 w0 c D E w act ad) {m : Nat} (hcm : c ≤ m) (hm : m ≤ C.l.length) : ∃ E2, Ext E E2 ∧ E2.nx = (C.s m).nx ∧ C.Mp D ad E2 c m := by
 let pick : Nat → Nat × Nat := fun b => if h : ∃ j, c ≤ j ∧ j < m ∧ C.Em D j ∧ (C.s j).nx = b then ad (Classical.choose h) else (0, 0)
 refine ⟨⟨(C.s m).nx, fun b => if b < E.nx then E.ι b else (pick b).1, fun b => if b < E.nx then E.sh b else 0, fun b => if b < E.nx then E.sz b else (pick b).2⟩, ⟨by show E.nx ≤ _; rw [I.nxE]; exact C.W.nx' hcm hm, fun b hb => if_pos hb, fun b hb => if_pos hb, fun b hb => if_pos hb⟩, rfl, fun j h1 h2 hj => ?_⟩
 have hge : ¬ (C.s j).nx < E.nx := by
  have := C.W.nx' h1 (show j ≤ C.l.length by omega)
  rw [I.nxE]; omega
 have hp : pick (C.s j).nx = ad j := by
  have hex : ∃ j', c ≤ j' ∧ j' < m ∧ C.Em D j' ∧ (C.s j').nx = (C.s j).nx := ⟨j, h1, h2, hj, rfl⟩
  show (if h : ∃ j', c ≤ j' ∧ j' < m ∧ C.Em D j' ∧ (C.s j').nx = (C.s j).nx then ad (Classical.choose h) else (0, 0)) = ad j
  rw [dif_pos hex]
  obtain ⟨k1, k2, k3, k4⟩ := Classical.choose_spec hex
  congr 1
  rcases Nat.lt_trichotomy (Classical.choose hex) j with hlt | heq | hgt
  ·have h3 := (I.made _ k1 k3).nx
   have h4 := C.W.nx' (show Classical.choose hex + 1 ≤ j by omega) (show j ≤ C.l.length by omega)
   omega
  ·exact heq
  ·have h3 := (I.made _ h1 hj).nx
   have h4 := C.W.nx' (show j + 1 ≤ Classical.choose hex by omega) (show Classical.choose hex ≤ C.l.length by omega)
   omega
 refine ⟨?_, ?_, ?_, ?_⟩
 ·have h3 := (I.made _ h1 hj).nx
  have h4 := C.W.nx' (show j + 1 ≤ m by omega) hm
  show (C.s j).nx < (C.s m).nx
  omega
 ·show (if (C.s j).nx < E.nx then E.ι (C.s j).nx else (pick (C.s j).nx).1) = _
  rw [if_neg hge, hp]
 ·exact if_neg hge
 ·show (if (C.s j).nx < E.nx then E.sz (C.s j).nx else (pick (C.s j).nx).2) = _
  rw [if_neg hge, hp]
theorem Sim.look (I : Sim C N E0 s0 w0 c D E w act ad) {m : Nat} {x : Sp} (hx : C.l[m]? = some x) (hi : x.ix ∉ D) (hanc : ∀ k, Nat.testBit x.ms k = true → k ∈ D) {t : Tmp} (ht : t ∈ looks C.A.toList x.op) {E2 : En} (X : Ext E E2) (hp : C.Mp D ad E2 c m) :
  VR E2 (orUndef ((C.a m).tm.get t)) (act.tmps.getD t undef) := by
 have hm := getElem?_lt hx
 by_cases hw : ∃ (m' : Nat) (x' : Sp), C.l[m']? = some x' ∧ x'.op.dst = some t
 ·obtain ⟨m', x', hx', hd⟩ := hw
  have hlk := C.K.look m m' x x' t hx hx' ht hd
  by_cases hlt : m' < m
  ·have h1 := hanc _ (hlk.1 hlt)
   rw [C.W.own C.K C.hn hx' hd hlt (by omega)]
   exact I.t1 m' x' t hx' h1 hd E2 X fun j q1 q2 => hp j q1 (by omega)
  ·have h1 : x'.ix ∉ D := by
    rcases Nat.lt_or_ge m m' with h2 | h2
    ·intro hin
     have := hlk.2 h2
     rw [(C.K.op m' x' hx').2.2] at this
     exact hi (I.dn _ hin _ this)
    ·have e : m' = m := by omega
     subst e
     rw [hx] at hx'
     cases hx'
     exact hi
   have uniq : ∀ (j : Nat) (y : Sp), C.l[j]? = some y → y.op.dst = some t → y.ix = x'.ix := fun j y hy hyd => C.K.dst _ _ _ _ t (C.K.op j y hy).1 (C.K.op m' x' hx').1 hyd hd
   rw [C.W.old C.hn (by omega) fun j y hj hy hyd => by
    have := C.K.inj j m' y x' hy hx' (uniq j y hy hyd)
    omega]
   exact (I.t0 t fun j y hy hin hyd => h1 (by rw [← uniq j y hy hyd]; exact hin)).ext X
 ·have hno : ∀ (j : Nat) (y : Sp), C.l[j]? = some y → y.op.dst ≠ some t := fun j y hy hd => hw ⟨j, y, hy, hd⟩
  rw [C.W.old C.hn (by omega) fun j y _ hy => hno j y hy]
  exact (I.t0 t fun j y hy _ => hno j y hy).ext X
theorem Sim.seen (I : Sim C N E0 s0 w0 c D E w act ad) {m : Nat} {x : Sp} (hx : C.l[m]? = some x) (hi : x.ix ∉ D) (hanc : ∀ k, Nat.testBit x.ms k = true → k ∈ D) {E2 : En} (X : Ext E E2) (hp : C.Mp D ad E2 c m) :
  Seen E2 (C.a m).tm act.eval x.op.op := by
 intro y hy
 refine opd_seen (Nat.le_trans I.stp.rel.lo X.nx) (fun b hb => ?_) fun t e => ?_
 ·have hb' : b < E.nx := Nat.lt_of_lt_of_le hb I.stp.rel.lo
  rw [X.ι b hb', X.sh b hb']; exact I.stp.rel.base b hb
 ·subst e
  refine I.look hx hi hanc ?_ X hp
  unfold looks
  exact List.mem_append_left _ (List.mem_filterMap.2 ⟨_, hy, rfl⟩)
theorem Sim.wan (I : Sim C N E0 s0 w0 c D E w act ad) {m : Nat} {x : Sp} (hx : C.l[m]? = some x) (hi : x.ix ∉ D) (hanc : ∀ k, Nat.testBit x.ms k = true → k ∈ D) {E2 : En} (X : Ext E E2) (hp : C.Mp D ad E2 c m) {r : Bool} (hw : wants C.A.toList (C.a m).tm x.op.guard = some r) :
  Region.wanted x.op (yielded C.A act.tmps) = r :=
 wants_at (fun t ht => I.look hx hi hanc (by unfold looks; exact List.mem_append_right _ ht) X hp) hw
theorem put_same {act : Act} {t : Tmp} {v : Value} (h : t < act.tmps.size) : (act.put (some t) v).tmps.getD t undef = v := by
 simp only [Act.put, Array.getD_eq_getD_getElem?, Array.getElem?_setIfInBounds, if_true]; rw [if_pos h]; rfl
theorem put_other {act : Act} {d : Option Tmp} {t : Tmp} {v : Value} (h : d ≠ some t) : (act.put d v).tmps.getD t undef = act.tmps.getD t undef := by
 cases d with
 | none => rfl
 | some d =>
  simp only [Act.put, Array.getD_eq_getD_getElem?, Array.getElem?_setIfInBounds]
  rw [if_neg (fun e => h (by rw [e]))]
theorem put_size (act : Act) (d : Option Tmp) (v : Value) : (act.put d v).tmps.size = act.tmps.size := by cases d <;> simp [Act.put]
theorem put_df (act : Act) (d : Option Tmp) (v : Value) : (act.put d v).defers = act.defers := by cases d <;> rfl
theorem Sim.add (I : Sim C N E0 s0 w0 c D E w act ad) {m : Nat} {x : Sp} (hx : C.l[m]? = some x) (hk : x.kd ≠ .acts) (hi : x.ix ∉ D) (hanc : ∀ k, Nat.testBit x.ms k = true → k ∈ D) {w' : World} {v' : Value} {ad' : Nat → Nat × Nat}
  (hS : Stp N E0 s0 w0 E (C.s c) w') (hold : ∀ B, B < w.heap.size → w'.heap[B]? = w.heap[B]?) (hsz : w.heap.size ≤ w'.heap.size) (had : ∀ j, j ≠ m → ad' j = ad j)
  (hst : (C.Em (x.ix :: D) m ∨ C.s (m + 1) = C.s m) ∧ (C.a (m + 1)).df = (C.a m).df)
  (hv : ∀ t, x.op.dst = some t → t < (C.a 0).nn ∧ ∀ E2, Ext E E2 → C.Mp (x.ix :: D) ad' E2 c (m + 1) → VR E2 (orUndef ((C.a (m + 1)).tm.get t)) v')
  (hm : C.Em (x.ix :: D) m → C.MkF w0 E (x.ix :: D) c ad' w' m ∧ ∀ j, c ≤ j → C.Em D j → (ad j).1 ≠ (ad' m).1) :
  Sim C N E0 s0 w0 c (x.ix :: D) E w' (act.put x.op.dst v') ad' := by
 have hml := getElem?_lt hx
 have sub : ∀ i ∈ D, i ∈ x.ix :: D := fun i h => List.mem_cons_of_mem _ h
 have at_m : ∀ (j : Nat) (y : Sp), C.l[j]? = some y → y.ix = x.ix → j = m ∧ y = x := by
  intro j y hy e
  have := C.K.inj j m y x hy hx e
  subst this
  rw [hx] at hy; cases hy
  exact ⟨rfl, rfl⟩
 have em_ne : ∀ {j}, C.Em D j → j ≠ m := by
  intro j ⟨y, h1, h2, _⟩ e
  subst e
  rw [hx] at h1; cases h1
  exact hi h2
 have em_back : ∀ {j}, C.Em (x.ix :: D) j → j ≠ m → C.Em D j := by
  intro j ⟨y, h1, h2, h3⟩ hj
  rcases List.mem_cons.1 h2 with e | h2
  ·exact absurd (at_m j y h1 e).1 hj
  ·exact ⟨y, h1, h2, h3⟩
 have mp : ∀ {E2 : En} {q : Nat}, C.Mp (x.ix :: D) ad' E2 c q → C.Mp D ad E2 c q := by
  intro E2 q h j h1 h2 he
  have := h j h1 h2 (he.mono sub)
  rw [had j (em_ne he)] at this
  exact this
 refine ⟨hS, I.cl, fun i hin k hb => ?_, fun q y hq hy => sub _ (I.done q y hq hy), fun q y hq hy hka hin => ?_, fun q y t hy hin hd E2 X hp => ?_, fun t ht => ?_, by rw [put_size]; exact I.size, by rw [put_df]; exact I.dfr, fun j y hj hy hin hky => ?_, fun j hj he => ?_, fun j j' hj hj' he he' hne => ?_⟩
 ·rcases List.mem_cons.1 hin with e | hin
  ·subst e
   rw [← (C.K.op m x hx).2.2] at hb
   exact sub _ (hanc k hb)
  ·exact sub _ (I.dn i hin k hb)
 ·rcases List.mem_cons.1 hin with e | hin
  ·obtain ⟨_, rfl⟩ := at_m q y hy e
   exact hk hka
  ·exact I.acts q y hq hy hka hin
 ·rcases List.mem_cons.1 hin with e | hin
  ·obtain ⟨rfl, rfl⟩ := at_m q y hy e
   obtain ⟨h1, h2⟩ := hv t hd
   rw [hd, put_same (by rw [I.size]; exact h1), ← C.W.own C.K C.hn hx hd (Nat.lt_succ_self q) hml]
   exact h2 E2 X hp
  ·have hne : x.op.dst ≠ some t := fun e => hi (by
    rw [← C.K.dst _ _ _ _ t (C.K.op q y hy).1 (C.K.op m x hx).1 hd e]; exact hin)
   rw [put_other hne]
   exact I.t1 q y t hy hin hd E2 X (mp hp)
 ·rw [put_other (ht m x hx List.mem_cons_self)]
  exact I.t0 t fun q y hy hin => ht q y hy (sub _ hin)
 ·rcases List.mem_cons.1 hin with e | hin
  ·obtain ⟨rfl, rfl⟩ := at_m j y hy e
   exact hst
  ·obtain ⟨h1, h2⟩ := I.still j y hj hy hin hky
   exact ⟨h1.imp (fun h => h.mono sub) id, h2⟩
 ·by_cases e : j = m
  ·subst e; exact (hm he).1
  ·have he' := em_back he e
   have F := I.made j hj he'
   obtain ⟨ob, f1, f2, f3, f4, f5⟩ := F.ob
   refine ⟨F.nx, by rw [had j e]; exact Nat.lt_of_lt_of_le F.lt hsz, by rw [had j e]; exact F.ge, by rw [had j e]; exact F.alone, ob, f1, f2, f3, f4, fun E2 X hnx hp w2 hw2 => ?_⟩
   rw [had j e] at hw2 ⊢
   exact f5 E2 X hnx (mp hp) w2 (by rw [hw2]; exact hold _ F.lt)
 ·by_cases e : j = m
  ·subst e
   have he2 := em_back he' (fun e => hne e.symm)
   rw [had j' (fun e => hne e.symm)]
   exact fun q => (hm he).2 j' hj' he2 q.symm
  ·by_cases e' : j' = m
   ·subst e'
    rw [had j e]
    exact (hm he').2 j hj (em_back he e)
   ·rw [had j e, had j' e']
    exact I.mkd j j' hj hj' (em_back he e) (em_back he' e') hne
end
end
end Go.Ev
namespace Go.Ev
open Go
section
variable {P : Program} {rec : Rec} {C : Cx P rec} {N : Nat} {E0 : En} {s0 : St} {w0 : World} {c : Nat} {D : List Nat} {E : En} {w : World} {act : Act} {ad : Nat → Nat × Nat}
theorem Cx.past (C : Cx P rec) {c : Nat} : ∀ (d : Nat), c + d ≤ C.l.length → ∃ ext : Past, C.pa (c + d) = ext ++ C.pa c ∧ ∀ q ∈ ext, ∃ (j : Nat) (y : Sp), c ≤ j ∧ C.l[j]? = some y ∧ y.kd = .acts ∧ q.1 = some y.ix
 | 0, _ => ⟨[], rfl, fun q hq => by cases hq⟩
 | d + 1, h => by
  obtain ⟨ext, h1, h2⟩ := C.past (c := c) d (by omega)
  have hx := List.getElem?_eq_getElem (show c + d < C.l.length by omega)
  by_cases hk : (C.l[c + d]'(by omega)).kd = .acts
  ·refine ⟨(some (C.l[c + d]'(by omega)).ix, C.s (c + d + 1)) :: ext, ?_, fun q hq => ?_⟩
   ·rw [show c + (d + 1) = c + d + 1 by omega, C.W.act _ _ hx hk, h1]; rfl
   ·rcases List.mem_cons.1 hq with rfl | hq
    ·exact ⟨c + d, _, by omega, hx, hk, rfl⟩
    ·exact h2 q hq
  ·exact ⟨ext, by rw [show c + (d + 1) = c + d + 1 by omega, C.W.still _ _ hx hk, h1], h2⟩
theorem stood_at {op : Op} {tm : Tr Value} {u : Option Value} {mm : Nat} {q : Option Nat} {st : St} {ps : Past} : ∀ {ext : Past}, stood P op tm u mm (ext ++ (q, st) :: ps) = true → (∀ p ∈ ext, ∃ i, p.1 = some i ∧ Nat.testBit mm i = false) → agrees u (exec P op tm st) = true
 | [], h, _ => by
  simp only [List.nil_append, stood] at h
  cases e : agrees u (exec P op tm st) with
  | true => rfl
  | false => rw [e] at h; cases h
 | (q1, s1) :: ext, h, hn => by
  obtain ⟨i, e1, e2⟩ := hn _ List.mem_cons_self
  have e1' : q1 = some i := e1
  subst e1'
  have h' : cond (agrees u (exec P op tm s1)) (cond (Nat.testBit mm i) true (stood P op tm u mm (ext ++ (q, st) :: ps))) false = true := h
  cases e : agrees u (exec P op tm s1) with
  | false => rw [e] at h'; cases h'
  | true =>
   rw [e, e2] at h'
   exact stood_at (show stood P op tm u mm (ext ++ (q, st) :: ps) = true from h') fun p hp => hn p (List.mem_cons_of_mem _ hp)
theorem Obs.ext {E E2 : En} {s : St} {w : World} (h : Obs E s w) (X : Ext E E2) : Obs E2 s w :=
 ⟨fun b o hb => ⟨Nat.lt_of_lt_of_le (h.ob b o hb).1 X.nx, (h.ob b o hb).2.keep X (h.ob b o hb).1 rfl⟩⟩
theorem value_inj {w w1 w2 : World} {v1 v2 : Value} {m : Sem Next} (h1 : m.run P w = .ok (.value v1) w1) (h2 : m.run P w = .ok (.value v2) w2) : v1 = v2 ∧ w1 = w2 := by
 rw [h1] at h2
 cases h2
 exact ⟨rfl, rfl⟩
theorem push_inj {α : Type} {a : Array α} {x y : α} (h : a.push x = a.push y) : x = y := by
 have := congrArg (fun b => b[a.size]?) h
 simpa using this
theorem Sim.pre (I : Sim C N E0 s0 w0 c D E w act ad) (hps : ∃ q ps, C.pa c = (q, C.s c) :: ps) {m : Nat} {x : Sp} (hx : C.l[m]? = some x) (hk : x.kd ≠ .acts) (hi : x.ix ∉ D) (hanc : ∀ k, Nat.testBit x.ms k = true → k ∈ D)
  {b : Frame} {k : List Item} {cs : List Frame} {rest : List Nat} :
  ∃ act' w' ad', Sim C N E0 s0 w0 c (x.ix :: D) E w' act' ad' ∧ Steps P (lone (b.atR act (.inRegion C.A (x.ix :: rest) :: k)) cs w) (lone (b.atR act' (.inRegion C.A rest :: k)) cs w') := by
 have hml := getElem?_lt hx
 have hcm : c ≤ m := by
  rcases Nat.lt_or_ge m c with h | h
  ·exact absurd (I.done m x h hx) hi
  ·exact h
 obtain ⟨E2, X2, hnx2, hp2⟩ := I.env hcm (Nat.le_of_lt hml)
 obtain ⟨hop, hkd, hms⟩ := C.K.op m x hx
 have hseen : ∀ {E3 : En}, Ext E E3 → C.Mp D ad E3 c m → Seen E3 (C.a m).tm act.eval x.op.op := fun X hp => I.seen hx hi hanc X hp
 have hnn : (C.a m).nn ≤ 4611686018427387904 := by rw [C.W.size C.hn m (Nat.le_of_lt hml)]; exact C.hn
 have hk' : kindOf P x.op.op ≠ .acts := by rw [← hkd]; exact hk
 have hdefer : ∀ c, x.op.op ≠ .defer c := fun c e => hk' (by rw [e]; rfl)
 have hst := (C.W.step m x hx).1
 rw [(C.a m).eta] at hst
 have mem_m : x.ix ∈ x.ix :: D := List.mem_cons_self
 have sub : ∀ i ∈ D, i ∈ x.ix :: D := fun i h => List.mem_cons_of_mem _ h
 have em_ne : ∀ {j}, C.Em D j → j ≠ m := by
  intro j ⟨y, h1, h2, _⟩ e
  subst e
  rw [hx] at h1; cases h1
  exact hi h2
 have em_kd : C.Em (x.ix :: D) m → x.kd = .makes ∧ wants C.A.toList (C.a m).tm x.op.guard = some true := by
  intro ⟨y, h1, _, h3, h4⟩
  rw [hx] at h1; cases h1
  exact ⟨h3, h4⟩
 rcases oper_still hk' (hseen X2 hp2) hst with ⟨hw, hput, hs⟩ | ⟨hw, v, hex, hput, hsame⟩
 · -- not wanted
  obtain ⟨tm', e, _, g2⟩ := put_get hnn hput
  refine ⟨act.put x.op.dst undef, w, ad, I.add hx hk hi hanc I.stp (fun _ _ => rfl) (Nat.le_refl _) (fun _ _ => rfl) ⟨.inr hs, by rw [e]; rfl⟩ (fun t ht => ⟨?_, fun E3 _ _ => ?_⟩) (fun he => ?_), step_skip hop (I.wan hx hi hanc X2 hp2 hw)⟩
  ·rw [← C.W.size C.hn m (Nat.le_of_lt hml)]; exact (g2 t ht).1
  ·rw [e]
   show VR E3 (orUndef (tm'.get t)) undef
   rw [(g2 t ht).2]
   exact .undef
  ·have := (em_kd he).2
   rw [hw] at this; cases this
 ·have hwant := I.wan hx hi hanc X2 hp2 hw
  obtain ⟨tm', e, _, g2⟩ := put_get hnn hput
  have htm : ∀ t, x.op.dst = some t → orUndef ((C.a (m + 1)).tm.get t) = v := by
   intro t ht
   rw [e]
   show orUndef (tm'.get t) = v
   rw [(g2 t ht).2]; rfl
  have hlt : ∀ t, x.op.dst = some t → t < (C.a 0).nn := fun t ht => by rw [← C.W.size C.hn m (Nat.le_of_lt hml)]; exact (g2 t ht).1
  have mp0 : ∀ {E3 : En} {q : Nat}, C.Mp (x.ix :: D) ad E3 c q → C.Mp D ad E3 c q := fun h j h1 h2 he => h j h1 h2 (he.mono sub)
  have plain : x.kd ≠ .makes → ∀ v', (execOp act.eval x.op).run P w = .ok (.value v') w → (∀ E3, Ext E E3 → C.Mp D ad E3 c m → VR E3 v v') →
    ∃ act' w' ad', Sim C N E0 s0 w0 c (x.ix :: D) E w' act' ad' ∧ Steps P (lone (b.atR act (.inRegion C.A (x.ix :: rest) :: k)) cs w) (lone (b.atR act' (.inRegion C.A rest :: k)) cs w') := by
   intro hnm v' hrun hvr
   refine ⟨act.put x.op.dst v', w, ad, I.add hx hk hi hanc I.stp (fun _ _ => rfl) (Nat.le_refl _) (fun _ _ => rfl) ⟨.inr (hsame (by rw [← hkd]; exact hnm)), by rw [e]; rfl⟩ (fun t ht => ⟨hlt t ht, fun E3 X hp => ?_⟩) (fun he => absurd (em_kd he).1 hnm), step_val hop hdefer hwant hrun⟩
   rw [htm t ht]
   exact hvr E3 X fun j h1 h2 he => mp0 hp j h1 (by omega) he
  cases hkk : x.kd with
  | acts => exact absurd hkk hk
  | none =>
   have hk0 : kindOf P x.op.op = .none := by rw [← hkd]; exact hkk
   have each : ∀ {E3 : En}, Ext E E3 → C.Mp D ad E3 c m → ∃ v', VR E3 v v' ∧ (execOp act.eval x.op).run P w = .ok (.value v') w := by
    intro E3 X hp
    rcases exec_pure x.op (hseen X hp) hk0 with hno | ⟨v1, v', h1, h2, h3⟩
    ·rw [show exec P x.op.op (C.a m).tm (C.s m) = .no from hno _] at hex; cases hex
    ·rw [show exec P x.op.op (C.a m).tm (C.s m) = .ok (.val v1) (C.s m) from h1 _] at hex
     injection hex with h4 h5
     injection h4 with h4
     subst h4
     exact ⟨v', h2, h3 w⟩
   obtain ⟨v', _, hrun⟩ := each X2 hp2
   refine plain (by rw [hkk]; intro h; cases h) v' hrun fun E3 X hp => ?_
   obtain ⟨v2, h1, h2⟩ := each X hp
   rw [(value_inj hrun h2).1]; exact h1
  | reads =>
   have hk0 : kindOf P x.op.op = .reads := by rw [← hkd]; exact hkk
   obtain ⟨q, ps, hpa⟩ := hps
   obtain ⟨ext, hx1, hx2⟩ := C.past (c := c) (m - c) (by omega)
   rw [show c + (m - c) = m by omega, hpa] at hx1
   have hso := C.W.rd m x hx hkk
   have hso' : stood P x.op.op (C.a m).tm (getD (C.a (m + 1)).tm x.op.dst) x.ms (C.pa m) = true := by
    have h1 : stoodO P C.A.toList (C.pa m) x.op x.ms (C.a m) (C.a (m + 1)) = (match wants C.A.toList (C.a m).tm x.op.guard with
     | some true => stood P x.op.op (C.a m).tm (getD (C.a (m + 1)).tm x.op.dst) x.ms (C.pa m)
     | some false => true
     | none => false) := by
     generalize C.a m = a1
     generalize C.a (m + 1) = a2
     generalize x.op = o
     obtain ⟨_, _, _, _, _, _⟩ := o
     cases a1
     cases a2
     rfl
    rw [h1, hw] at hso
    exact hso
   rw [hx1] at hso'
   have hag := stood_at hso' fun p hp => by
    obtain ⟨j, y, h1, h2, h3, h4⟩ := hx2 p hp
    refine ⟨y.ix, h4, ?_⟩
    cases hb : Nat.testBit x.ms y.ix with
    | false => rfl
    | true => exact absurd (hanc _ hb) (I.acts j y h1 h2 h3)
   have hexc : ∃ s1, exec P x.op.op (C.a m).tm (C.s c) = .ok (.val v) s1 := by
    unfold agrees at hag
    split at hag
    ·rename_i u v1 s1 hu he
     have e1 := eqV_eq 5 _ _ hag
     subst e1
     refine ⟨s1, ?_⟩
     rw [he]
     cases hd : x.op.dst with
     | none => rw [hd] at hu; cases hu
     | some t =>
      rw [hd] at hu
      have hu' : (C.a (m + 1)).tm.get t = some u := hu
      rw [e] at hu'
      have hu2 : tm'.get t = some u := hu'
      rw [(g2 t hd).2] at hu2
      cases hu2
      rfl
    ·cases hag
   obtain ⟨s1, hexc⟩ := hexc
   have each : ∀ {E3 : En}, Ext E E3 → C.Mp D ad E3 c m → ∃ v', VR E3 v v' ∧ (execOp act.eval x.op).run P w = .ok (.value v') w := by
    intro E3 X hp
    obtain ⟨_, v1, v', h1, h2, h3⟩ := exec_reads (I.stp.rel.obs.ext X) x.op (hseen X hp) hk0 hexc
    cases h1
    exact ⟨v', h2, h3⟩
   obtain ⟨v', _, hrun⟩ := each X2 hp2
   refine plain (by rw [hkk]; intro h; cases h) v' hrun fun E3 X hp => ?_
   obtain ⟨v2, h1, h2⟩ := each X hp
   rw [(value_inj hrun h2).1]; exact h1
  | makes =>
   have hk0 : kindOf P x.op.op = .makes := by rw [← hkd]; exact hkk
   have hem : C.Em (x.ix :: D) m := ⟨x, hx, mem_m, hkk, hw⟩
   obtain ⟨ob, vf, hv0, hnx, hs1, hall⟩ := exec_makes x.op (hseen X2 hp2) hk0 hex
   obtain ⟨w1, o1, vf', sz, hrun, hpush, hos, htp, hout, M⟩ := hall w
   have hgob : (C.s (m + 1)).hp.get (C.s m).nx = some ob := by
    rw [hs1]
    show ((C.s m).hp.set ob (C.s m).nx).get (C.s m).nx = _
    rw [Tr.get_set _ _ _ (by omega), if_pos rfl]
   have each : ∀ {E3 : En}, Ext E E3 → C.Mp D ad E3 c m → E3.nx = (C.s m).nx → (∀ w2 : World, w2.heap[w.heap.size]? = some o1 → ObR (E3.push w.heap.size 0 o1.cellsN) E3.nx w2 ob) ∧ VR (E3.push w.heap.size 0 o1.cellsN) v (vf' w.heap.size) := by
    intro E3 X hp hnx3
    obtain ⟨ob3, vf3, hv3, _, hs3, hall3⟩ := exec_makes x.op (hseen X hp) hk0 hex
    obtain ⟨w3, o3, vf3', sz3, hrun3, hpush3, _, _, _, M3⟩ := hall3 w
    obtain ⟨e1, e2⟩ := value_inj hrun hrun3
    subst e2
    have e3 : o1 = o3 := push_inj (hpush.symm.trans hpush3)
    subst e3
    have e4 : ob3 = ob := by
     have : (C.s (m + 1)).hp.get (C.s m).nx = some ob3 := by
      rw [hs3]
      show ((C.s m).hp.set ob3 (C.s m).nx).get (C.s m).nx = _
      rw [Tr.get_set _ _ _ (by omega), if_pos rfl]
     rw [hgob] at this
     exact (Option.some.inj this).symm
    subst e4
    have e5 := M3.szo
    subst e5
    refine ⟨fun w2 hw2 => M3.ob E3 w.heap.size w2 (.refl E3) hw2, ?_⟩
    have := M3.vr E3 w.heap.size (.refl E3)
    rw [← e1, hnx3] at this
    have hv3' : v = vf3 (C.s m).nx := by injection hv3
    rw [← hv3'] at this
    exact this
   have hsz1 : w1.heap.size = w.heap.size + 1 := by rw [hpush]; simp
   have hold : ∀ B, B < w.heap.size → w1.heap[B]? = w.heap[B]? := fun B hB => by rw [hpush, Array.getElem?_push, if_neg (by omega)]
   have hnew : w1.heap[w.heap.size]? = some o1 := by rw [hpush]; simp
   let ad' : Nat → Nat × Nat := fun j => if j = m then (w.heap.size, o1.cellsN) else ad j
   have had : ∀ j, j ≠ m → ad' j = ad j := fun j hj => if_neg hj
   have hadm : ad' m = (w.heap.size, o1.cellsN) := if_pos rfl
   have mp : ∀ {E3 : En} {q : Nat}, C.Mp (x.ix :: D) ad' E3 c q → C.Mp D ad E3 c q := by
    intro E3 q h j h1 h2 he
    have := h j h1 h2 (he.mono sub)
    rw [had j (em_ne he)] at this
    exact this
   have hnxm : (C.s (m + 1)).nx = (C.s m).nx + 1 := by rw [hs1]; rfl
   refine ⟨act.put x.op.dst (vf' w.heap.size), w1, ad', I.add hx hk hi hanc (I.stp.pushed hpush hos htp hout) hold (by omega) had ⟨.inl hem, by rw [e]; rfl⟩ (fun t ht => ⟨hlt t ht, fun E3 X hp => ?_⟩) (fun _ => ⟨⟨hnxm, ?_, ?_, ?_, ob, hnx, hs1, M.grp, M.rw, ?_⟩, ?_⟩), step_val hop hdefer hwant hrun⟩
   ·rw [htm t ht]
    obtain ⟨q1, q2, q3, q4⟩ := hp m hcm (Nat.lt_succ_self _) hem
    rw [hadm] at q2 q4
    have hcn : E.nx ≤ (C.s m).nx := by rw [I.nxE]; exact C.W.nx' hcm (Nat.le_of_lt hml)
    have X4 : Ext E { E3 with nx := (C.s m).nx } := ⟨hcn, X.ι, X.sh, X.sz⟩
    have hp4 : C.Mp D ad { E3 with nx := (C.s m).nx } c m := by
     intro j h1 h2 he
     obtain ⟨_, k2, k3, k4⟩ := mp hp j h1 (by omega) he
     have h3 := (I.made j h1 he).nx
     have h4 := C.W.nx' (show j + 1 ≤ m by omega) (Nat.le_of_lt hml)
     exact ⟨by show (C.s j).nx < (C.s m).nx; omega, k2, k3, k4⟩
    have hv4 := (each X4 hp4 rfl).2
    refine VR.ext (E := En.push { E3 with nx := (C.s m).nx } w.heap.size 0 o1.cellsN) (E' := E3) ⟨q1, fun b hb => ?_, fun b hb => ?_, fun b hb => ?_⟩ hv4
    all_goals
     have hb' : b < (C.s m).nx + 1 := hb
     by_cases eb : b = (C.s m).nx
    ·subst eb; rw [q2]; exact (if_pos rfl).symm
    ·exact (if_neg eb).symm
    ·subst eb; rw [q3]; exact (if_pos rfl).symm
    ·exact (if_neg eb).symm
    ·subst eb; rw [q4]; exact (if_pos rfl).symm
    ·exact (if_neg eb).symm
   ·rw [hadm, hsz1]; exact Nat.lt_succ_self _
   ·rw [hadm]; exact I.stp.size
   ·rw [hadm]
    intro b1 o hb hd e
    have := (I.stp.rel.ob b1 o hb).2.lt hd
    have e' : E.ι b1 = w.heap.size := e
    omega
   ·intro E3 X hnx3 hp w2 hw2
    rw [hadm] at hw2 ⊢
    exact (each X (mp hp) hnx3).1 w2 (by rw [hw2]; exact hnew)
   ·intro j hj he
    rw [hadm]
    have := (I.made j hj he).lt
    intro e
    have e' : (ad j).1 = w.heap.size := e
    omega
end
end Go.Ev
