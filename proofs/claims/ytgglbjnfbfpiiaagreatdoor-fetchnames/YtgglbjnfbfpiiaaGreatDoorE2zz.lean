import Derived.Test.YtgglbjnfbfpiiaaGreatDoorE1zz
/-
  The evaluator: memory.
-/
namespace Go.Ev
open Go
def St.hp : St → Tr Ob | .mk hp _ _ => hp
def St.nx : St → Nat | .mk _ nx _ => nx
def St.gr : St → Tr (List Nat) | .mk _ _ gr => gr
theorem St.eta (s : St) : s = .mk s.hp s.nx s.gr := by cases s; rfl
def Ob.rw : Ob → Prop
  | .ro _ => False
  | .dead => False
  | _ => True
def Ob.grp : Ob → Nat
  | .row _ g => g
  | _ => 0
structure EntR (E : En) (e e' : MapEntry) : Prop where
  key : e'.key = e.key
  val : VR E e.val e'.val
  born : e'.born = e.born
inductive EntRs (E : En) : List MapEntry → List MapEntry → Prop
  | nil : EntRs E [] []
  | cons (e e' : MapEntry) (l l' : List MapEntry) : EntR E e e' → EntRs E l l' → EntRs E (e :: l) (e' :: l')
def TmR (E : En) (tm : Tr Value) (tmps : Array Value) : Prop := ∀ t, VR E (orUndef (tm.get t)) (tmps.getD t undef)
structure LoopR (E : En) (lp : Loop) (n : Nat) (tm : Tr Value) (lp' : Loop) : Prop where
  state : lp'.state = lp.state
  pending : lp'.pending = lp.pending
  fn : lp'.fn = lp.fn
  params : lp'.params = lp.params
  assign : lp'.assign = lp.assign
  body : lp'.body = lp.body
  lt : lp.defers < E.nx
  defers : lp'.defers = E.ι lp.defers
  size : lp'.tmps.size = n
  tmps : TmR E tm lp'.tmps
inductive DfR (E : En) : Deferred → Deferred → Prop
  | fn (f : FuncId) (y y' x x' : List Value) : VRs E y y' → VRs E x x' → DfR E ⟨.fn (.func f) ⟨y⟩, ⟨x⟩⟩ ⟨.fn (.func f) ⟨y'⟩, ⟨x'⟩⟩
  | col (r : Nat) : r < E.nx → DfR E ⟨.collected r, #[]⟩ ⟨.collected (E.ι r), #[]⟩
inductive DfRs (E : En) : List Deferred → List Deferred → Prop
  | nil : DfRs E [] []
  | cons (d d' : Deferred) (l l' : List Deferred) : DfR E d d' → DfRs E l l' → DfRs E (d :: l) (d' :: l')
inductive DfO (E : En) : Option (List Deferred) → Option (List Deferred) → Prop
  | none : DfO E none none
  | some (l l' : List Deferred) : DfRs E l l' → DfO E (some l) (some l')
/-- The cells that are known of a row. -/
def CellsR (E : En) (sh : Nat) (cs : List Value) (c : Array Value) : Prop := ∀ i v, cs[i]? = some v → ∃ v', c[sh + i]? = some v' ∧ VR E v v'
def Thaw (fr : Nat × Nat) (n : Nat) : Prop := fr.1 = fr.2 ∨ n ≤ fr.1
theorem Thaw.not {fr : Nat × Nat} {n : Nat} (h : Thaw fr n) (i : Nat) (hi : i < n) : ¬ (fr.1 ≤ i ∧ i < fr.2) := fun ⟨a, b⟩ => by rcases h with h | h <;> omega
def ObR (E : En) (b : Nat) (w : World) : Ob → Prop
  | .row cs _ => ∃ c t fr, w.heap[E.ι b]? = some (.cells c t fr) ∧ c.size = E.sz b ∧ Thaw fr c.size ∧ CellsR E (E.sh b) cs c
  | .ro cs => ∃ c ty fr, w.heap[E.ι b]? = some (.cells c ty fr) ∧ CellsR E (E.sh b) cs c
  | .map es clock => ∃ es', w.heap[E.ι b]? = some (.map es' clock) ∧ EntRs E es es'.toList
  | .loop lp n tm => ∃ lp', w.heap[E.ι b]? = some (.loop lp') ∧ LoopR E lp n tm lp'
  | .dfr c => ∃ c', w.heap[E.ι b]? = some (.deferred c') ∧ DfO E c c'
  | .iter m since seen last => w.heap[E.ι b]? = some (.mapIter (m.map E.ι) since ⟨seen⟩ last) ∧ E.sh b = 0 ∧ ∀ r, m = some r → r < E.nx
  | .dead => True
structure Rel (N : Nat) (E : En) (s : St) (w : World) : Prop where
  nx : s.nx = E.nx
  lo : 1000 ≤ E.nx
  hi : E.nx ≤ E.nx + 1
  base : ∀ b, b < 1000 → E.ι b = b ∧ E.sh b = 0
  flr : N ≤ w.heap.size
  ob : ∀ b o, s.hp.get b = some o → b < E.nx ∧ ObR E b w o
  flo : ∀ b o, s.hp.get b = some o → o.rw → N ≤ E.ι b
  dis : ∀ b o b' o', s.hp.get b = some o → s.hp.get b' = some o' → o.rw → o' ≠ .dead → b ≠ b' → E.ι b = E.ι b' → o.grp ≠ 0 ∧ o'.grp = o.grp ∧ E.sh b' = E.sh b
  grp : ∀ b o, s.hp.get b = some o → o.grp ≠ 0 → ∃ ms, s.gr.get o.grp = some ms ∧ b ∈ ms
  ro : ∀ b o, s.hp.get b = some o → o ≠ .dead → ¬ o.rw → E.ι b < N
/-- What is known of the blocks. -/
structure Obs (E : En) (s : St) (w : World) : Prop where
  ob : ∀ b o, s.hp.get b = some o → b < E.nx ∧ ObR E b w o
theorem Rel.obs {N : Nat} {E : En} {s : St} {w : World} (h : Rel N E s w) : Obs E s w := ⟨h.ob⟩
/-- A step: what is new, what is left alone. -/
structure Stp (N : Nat) (E : En) (s : St) (w : World) (E' : En) (s' : St) (w' : World) : Prop where
  ext : Ext E E'
  rel : Rel N E' s' w'
  os : w'.os = w.os
  tape : w'.tape = w.tape
  output : w'.output = w.output
  size : w.heap.size ≤ w'.heap.size
  kept : ∀ B, B < w.heap.size → (∀ b o, s.hp.get b = some o → o.rw → E.ι b ≠ B) → w'.heap[B]? = w.heap[B]?
  prov : ∀ b o, s'.hp.get b = some o → o.rw → w.heap.size ≤ E'.ι b ∨ ∃ b0 o0, s.hp.get b0 = some o0 ∧ o0.rw ∧ E.ι b0 = E'.ι b
theorem Stp.refl {N : Nat} {E : En} {s : St} {w : World} (h : Rel N E s w) : Stp N E s w E s w :=
  ⟨.refl E, h, rfl, rfl, rfl, Nat.le_refl _, fun _ _ _ => rfl, fun b o hb ho => .inr ⟨b, o, hb, ho, rfl⟩⟩
theorem Stp.trans {N : Nat} {E E1 E2 : En} {s s1 s2 : St} {w w1 w2 : World} (h : Stp N E s w E1 s1 w1) (k : Stp N E1 s1 w1 E2 s2 w2) : Stp N E s w E2 s2 w2 := by
  refine ⟨h.ext.trans k.ext, k.rel, k.os.trans h.os, k.tape.trans h.tape, k.output.trans h.output, Nat.le_trans h.size k.size, fun B hB hn => ?_, fun b o hb ho => ?_⟩
  · rw [k.kept B (Nat.lt_of_lt_of_le hB h.size), h.kept B hB hn]
    intro b o hb ho e
    rcases h.prov b o hb ho with h1 | ⟨b0, o0, h1, h2, h3⟩
    · omega
    · exact hn b0 o0 h1 h2 (h3.trans e)
  · rcases k.prov b o hb ho with h1 | ⟨b1, o1, h1, h2, h3⟩
    · exact .inl (Nat.le_trans h.size h1)
    · rcases h.prov b1 o1 h1 h2 with h4 | ⟨b0, o0, h4, h5, h6⟩
      · exact .inl (by omega)
      · exact .inr ⟨b0, o0, h4, h5, h6.trans h3⟩
/-- A draw changes nothing. -/
theorem Rel.drawn {N : Nat} {E : En} {s : St} {w : World} (h : Rel N E s w) (n : Nat) : Rel N E s { w with drawn := n } := by
  refine ⟨h.nx, h.lo, h.hi, h.base, h.flr, fun b o hb => ⟨(h.ob b o hb).1, ?_⟩, h.flo, h.dis, h.grp, h.ro⟩
  have := (h.ob b o hb).2
  cases o <;> exact this
theorem Stp.drawn {N : Nat} {E : En} {s : St} {w : World} (h : Rel N E s w) (n : Nat) : Stp N E s w E s { w with drawn := n } :=
  ⟨.refl E, h.drawn n, rfl, rfl, rfl, Nat.le_refl _, fun _ _ _ => rfl, fun b o hb ho => .inr ⟨b, o, hb, ho, rfl⟩⟩
theorem EntRs.ext {E E' : En} (X : Ext E E') : ∀ {l l' : List MapEntry}, EntRs E l l' → EntRs E' l l'
  | _, _, .nil => .nil
  | _, _, .cons e e' _ _ h k => .cons e e' _ _ ⟨h.key, h.val.ext X, h.born⟩ (k.ext X)
theorem TmR.ext {E E' : En} (X : Ext E E') {tm : Tr Value} {tmps : Array Value} (h : TmR E tm tmps) : TmR E' tm tmps := fun t => (h t).ext X
theorem LoopR.ext {E E' : En} (X : Ext E E') {lp : Loop} {n : Nat} {tm : Tr Value} {lp' : Loop} (h : LoopR E lp n tm lp') : LoopR E' lp n tm lp' :=
  ⟨h.state, h.pending, h.fn, h.params, h.assign, h.body, Nat.lt_of_lt_of_le h.lt X.nx, by rw [X.ι _ h.lt]; exact h.defers, h.size, h.tmps.ext X⟩
theorem DfR.ext {E E' : En} (X : Ext E E') {d d' : Deferred} (h : DfR E d d') : DfR E' d d' := by
  cases h with
  | fn f y y' x x' hy hx => exact .fn f y y' x x' (hy.ext X) (hx.ext X)
  | col r hr => rw [← X.ι r hr]; exact .col r (Nat.lt_of_lt_of_le hr X.nx)
theorem DfRs.ext {E E' : En} (X : Ext E E') : ∀ {l l' : List Deferred}, DfRs E l l' → DfRs E' l l'
  | _, _, .nil => .nil
  | _, _, .cons d d' _ _ h k => .cons d d' _ _ (h.ext X) (k.ext X)
theorem DfO.ext {E E' : En} (X : Ext E E') {c c' : Option (List Deferred)} (h : DfO E c c') : DfO E' c c' := by
  cases h with
  | none => exact .none
  | some l l' h => exact .some l l' (h.ext X)
theorem CellsR.ext {E E' : En} (X : Ext E E') {sh : Nat} {cs : List Value} {c : Array Value} (h : CellsR E sh cs c) : CellsR E' sh cs c :=
  fun i v hv => let ⟨v', h1, h2⟩ := h i v hv; ⟨v', h1, h2.ext X⟩
/-- A block that is where it was. -/
theorem ObR.keep {E E' : En} (X : Ext E E') {b : Nat} {o : Ob} {w w' : World} (h : ObR E b w o) (hb : b < E.nx) (hw : w'.heap[E.ι b]? = w.heap[E.ι b]?) : ObR E' b w' o := by
  cases o with
  | row cs g =>
    obtain ⟨c, t, fr, h1, h2, h3, h4⟩ := h
    exact ⟨c, t, fr, by rw [X.ι b hb, hw]; exact h1, by rw [X.sz b hb]; exact h2, h3, by rw [X.sh b hb]; exact h4.ext X⟩
  | ro cs =>
    obtain ⟨c, t, fr, h1, h4⟩ := h
    exact ⟨c, t, fr, by rw [X.ι b hb, hw]; exact h1, by rw [X.sh b hb]; exact h4.ext X⟩
  | map es clock => obtain ⟨es', h1, h2⟩ := h; exact ⟨es', by rw [X.ι b hb, hw]; exact h1, h2.ext X⟩
  | loop lp n tm => obtain ⟨lp', h1, h2⟩ := h; exact ⟨lp', by rw [X.ι b hb, hw]; exact h1, h2.ext X⟩
  | dfr c => obtain ⟨c', h1, h2⟩ := h; exact ⟨c', by rw [X.ι b hb, hw]; exact h1, h2.ext X⟩
  | iter m since seen last =>
    obtain ⟨h1, h2, h3⟩ := h
    refine ⟨?_, by rw [X.sh b hb]; exact h2, fun r hr => Nat.lt_of_lt_of_le (h3 r hr) X.nx⟩
    rw [X.ι b hb, hw, h1]
    cases m with
    | none => rfl
    | some r => rw [Option.map_some, Option.map_some, X.ι r (h3 r rfl)]
  | dead => trivial
theorem ObR.lt {E : En} {b : Nat} {o : Ob} {w : World} (h : ObR E b w o) (hd : o ≠ .dead) : E.ι b < w.heap.size := by
  have : (w.heap[E.ι b]?).isSome = true := by
    cases o with
    | row => obtain ⟨_, _, _, h, _⟩ := h; rw [h]; rfl
    | ro => obtain ⟨_, _, _, h, _⟩ := h; rw [h]; rfl
    | map => obtain ⟨_, h, _⟩ := h; rw [h]; rfl
    | loop => obtain ⟨_, h, _⟩ := h; rw [h]; rfl
    | dfr => obtain ⟨_, h, _⟩ := h; rw [h]; rfl
    | iter => obtain ⟨h, _⟩ := h; rw [h]; rfl
    | dead => exact absurd rfl hd
  rcases Nat.lt_or_ge (E.ι b) w.heap.size with h | h
  · exact h
  · rw [Array.getElem?_eq_none h] at this; cases this
/-! ### A new block -/
def En.push (E : En) (a sh sz : Nat) : En :=
  { nx := E.nx + 1, ι := fun b => if b = E.nx then a else E.ι b, sh := fun b => if b = E.nx then sh else E.sh b, sz := fun b => if b = E.nx then sz else E.sz b }
theorem En.push_ext (E : En) (a sh sz : Nat) : Ext E (E.push a sh sz) := by
  refine ⟨Nat.le_succ _, fun b hb => ?_, fun b hb => ?_, fun b hb => ?_⟩ <;> exact if_neg (by omega)
theorem En.push_ι (E : En) (a sh sz : Nat) : (E.push a sh sz).ι E.nx = a := if_pos rfl
theorem En.push_sh (E : En) (a sh sz : Nat) : (E.push a sh sz).sh E.nx = sh := if_pos rfl
theorem En.push_sz (E : En) (a sh sz : Nat) : (E.push a sh sz).sz E.nx = sz := if_pos rfl
theorem setO_some {hp : Tr Ob} {nx : Nat} {gr : Tr (List Nat)} {b : Nat} {o : Ob} {s : St} (h : setO hp nx gr b o = some s) : s = .mk (hp.set o b) nx gr := by
  unfold setO at h
  cases e : hp.set o b with
  | nil => rw [e] at h; cases h
  | node v a b c d => rw [e] at h; cases h; rfl
theorem newO_some {β : Type} {s : St} {o : Ob} {k : Nat → St → Option β} {r : β} (h : newO s o k = some r) :
    s.nx < s.nx + 1 ∧ k s.nx (.mk (s.hp.set o s.nx) (s.nx + 1) s.gr) = some r := by
  obtain ⟨hp, nx, gr⟩ := s
  have h' : cond (Nat.blt nx (Nat.succ nx)) (Tr.casesOn (motive := fun _ => Option β) (hp.set o nx) none fun v a b c d => fN (Nat.succ nx) fun n => k nx (.mk (.node v a b c d) n gr)) none = some r := h
  cases hb : Nat.blt nx (Nat.succ nx) with
  | false => rw [hb] at h'; cases h'
  | true =>
    rw [hb] at h'
    refine ⟨Nat.le_of_ble_eq_true hb, ?_⟩
    show k nx (.mk (hp.set o nx) (nx + 1) gr) = some r
    cases e : hp.set o nx with
    | nil => rw [e] at h'; cases h'
    | node v a b c d => rw [e] at h'; exact (fN_eq (Nat.succ nx) fun n => k nx (.mk (.node v a b c d) n gr)).symm.trans h'
/-- A block that was not there. -/
theorem stp_new {N : Nat} {E : En} {s : St} {w w' : World} (h : Rel N E s w) (hn : s.nx < s.nx + 1) {o : Ob} {o' : Obj} {sz : Nat} (hg : o.grp = 0) (hrw : o.rw)
    (hw : w'.heap = w.heap.push o') (hos : w'.os = w.os) (htp : w'.tape = w.tape) (hout : w'.output = w.output)
    (ho : ObR (E.push w.heap.size 0 sz) E.nx w' o) :
    Stp N E s w (E.push w.heap.size 0 sz) (.mk (s.hp.set o s.nx) (s.nx + 1) s.gr) w' := by
  have X := En.push_ext E w.heap.size 0 sz
  have old : ∀ B, B < w.heap.size → w'.heap[B]? = w.heap[B]? := fun B hB => by rw [hw, Array.getElem?_push, if_neg (by omega)]
  have hsz : w'.heap.size = w.heap.size + 1 := by rw [hw]; simp
  have gets : ∀ b, (s.hp.set o s.nx).get b = if b = E.nx then some o else s.hp.get b := fun b => by
    rw [Tr.get_set _ _ _ (by have := h.hi; have := h.nx; omega), h.nx]
  have ι' : ∀ b, b < E.nx → (E.push w.heap.size 0 sz).ι b = E.ι b := X.ι
  refine ⟨X, ⟨by show s.nx + 1 = E.nx + 1; rw [h.nx], Nat.le_trans h.lo (Nat.le_succ _), by show E.nx + 1 ≤ E.nx + 1 + 1; rw [← h.nx]; omega, fun b hb => ?_, by rw [hsz]; exact Nat.le_succ_of_le h.flr, fun b ob hb => ?_, fun b ob hb hr => ?_, fun b ob b' ob' hb hb' hr hd hne he => ?_, fun b ob hb hgr => ?_, fun b ob hb hd hr => ?_⟩, hos, htp, hout, by rw [hsz]; omega, fun B hB _ => old B hB, fun b ob hb hr => ?_⟩
  · have hb' : b < E.nx := Nat.lt_of_lt_of_le hb h.lo
    rw [X.ι b hb', X.sh b hb']; exact h.base b hb
  · rw [show (St.mk (s.hp.set o s.nx) (s.nx + 1) s.gr).hp = s.hp.set o s.nx from rfl, gets] at hb
    split at hb
    · rename_i e; cases hb; subst e; exact ⟨Nat.lt_succ_self _, ho⟩
    · obtain ⟨h1, h2⟩ := h.ob b ob hb
      refine ⟨Nat.lt_succ_of_lt h1, ?_⟩
      by_cases e : ob = .dead
      · subst e; trivial
      · exact h2.keep X h1 (old _ (h2.lt e))
  · rw [show (St.mk (s.hp.set o s.nx) (s.nx + 1) s.gr).hp = s.hp.set o s.nx from rfl, gets] at hb
    split at hb
    · rename_i e; subst e; rw [En.push_ι]; exact h.flr
    · rw [ι' b (h.ob b ob hb).1]; exact h.flo b ob hb hr
  · rw [show (St.mk (s.hp.set o s.nx) (s.nx + 1) s.gr).hp = s.hp.set o s.nx from rfl, gets] at hb hb'
    split at hb
    · rename_i e
      subst e
      rw [if_neg (fun e => hne e.symm)] at hb'
      have := (h.ob b' ob' hb').2.lt hd
      rw [En.push_ι, ι' b' (h.ob b' ob' hb').1] at he
      omega
    · have h1 := (h.ob b ob hb).1
      split at hb'
      · rename_i e
        subst e
        have := (h.ob b ob hb).2.lt (fun e => by subst e; exact hr)
        rw [En.push_ι, ι' b h1] at he
        omega
      · have h2 := (h.ob b' ob' hb').1
        rw [ι' b h1, ι' b' h2] at he
        rw [X.sh b h1, X.sh b' h2]
        exact h.dis b ob b' ob' hb hb' hr hd hne he
  · rw [show (St.mk (s.hp.set o s.nx) (s.nx + 1) s.gr).hp = s.hp.set o s.nx from rfl, gets] at hb
    split at hb
    · cases hb; exact absurd hg hgr
    · exact h.grp b ob hb hgr
  · rw [show (St.mk (s.hp.set o s.nx) (s.nx + 1) s.gr).hp = s.hp.set o s.nx from rfl, gets] at hb
    split at hb
    · cases hb; exact absurd hrw hr
    · rw [ι' b (h.ob b ob hb).1]; exact h.ro b ob hb hd hr
  · rw [show (St.mk (s.hp.set o s.nx) (s.nx + 1) s.gr).hp = s.hp.set o s.nx from rfl, gets] at hb
    split at hb
    · rename_i e; subst e; rw [En.push_ι]; exact .inl (Nat.le_refl _)
    · exact .inr ⟨b, ob, hb, hr, (ι' b (h.ob b ob hb).1).symm⟩
end Go.Ev
