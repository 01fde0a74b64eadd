import Derived.Test.YtcnhinnpieehoaaGreatDoorE1zz
namespace Go.Ev
open Go
def St.hp : St → Tr Ob | .mk hp _ _ => hp
def St.nx : St → Nat | .mk _ nx _ => nx
def St.gr : St → Tr (List Nat) | .mk _ _ gr => gr
theorem St.eta (s : St) : s = .mk s.hp s.nx s.gr := by cases s; rfl
def Ob.rw : Ob → Prop
 | .ro _ => False
 | .dead => False
 | _ => True
def Ob.grp : Ob → Nat
 | .row _ g => g
 | _ => 0
structure EntR (E : En) (e e' : MapEntry) : Prop where
 key : e'.key = e.key
 val : VR E e.val e'.val
 born : e'.born = e.born
inductive EntRs (E : En) : List MapEntry → List MapEntry → Prop
 | nil : EntRs E [] []
 | cons (e e' : MapEntry) (l l' : List MapEntry) : EntR E e e' → EntRs E l l' → EntRs E (e :: l) (e' :: l')
def TmR (E : En) (tm : Tr Value) (tmps : Array Value) : Prop := ∀ t, VR E (orUndef (tm.get t)) (tmps.getD t undef)
structure LoopR (E : En) (lp : Loop) (n : Nat) (tm : Tr Value) (lp' : Loop) : Prop where
 state : lp'.state = lp.state
 pending : lp'.pending = lp.pending
 fn : lp'.fn = lp.fn
 params : lp'.params = lp.params
 assign : lp'.assign = lp.assign
 body : lp'.body = lp.body
 lt : lp.defers < E.nx
 defers : lp'.defers = E.ι lp.defers
 size : lp'.tmps.size = n
 tmps : TmR E tm lp'.tmps
inductive DfR (E : En) : Deferred → Deferred → Prop
 | fn (f : FuncId) (y y' x x' : List Value) : VRs E y y' → VRs E x x' → DfR E ⟨.fn (.func f) ⟨y⟩, ⟨x⟩⟩ ⟨.fn (.func f) ⟨y'⟩, ⟨x'⟩⟩
 | col (r : Nat) : r < E.nx → DfR E ⟨.collected r, #[]⟩ ⟨.collected (E.ι r), #[]⟩
inductive DfRs (E : En) : List Deferred → List Deferred → Prop
 | nil : DfRs E [] []
 | cons (d d' : Deferred) (l l' : List Deferred) : DfR E d d' → DfRs E l l' → DfRs E (d :: l) (d' :: l')
inductive DfO (E : En) : Option (List Deferred) → Option (List Deferred) → Prop
 | none : DfO E none none
 | some (l l' : List Deferred) : DfRs E l l' → DfO E (some l) (some l')
def CellsR (E : En) (sh : Nat) (cs : List Value) (c : Array Value) : Prop := ∀ i v, cs[i]? = some v → ∃ v', c[sh + i]? = some v' ∧ VR E v v'
def Thaw (fr : Nat × Nat) (n : Nat) : Prop := fr.1 = fr.2 ∨ n ≤ fr.1
theorem Thaw.not {fr : Nat × Nat} {n : Nat} (h : Thaw fr n) (i : Nat) (hi : i < n) : ¬ (fr.1 ≤ i ∧ i < fr.2) := fun ⟨a, b⟩ => by rcases h with h | h <;> omega
def ObR (E : En) (b : Nat) (w : World) : Ob → Prop
 | .row cs _ => ∃ c t fr, w.heap[E.ι b]? = some (.cells c t fr) ∧ c.size = E.sz b ∧ Thaw fr c.size ∧ CellsR E (E.sh b) cs c
 | .ro cs => ∃ c ty fr, w.heap[E.ι b]? = some (.cells c ty fr) ∧ CellsR E (E.sh b) cs c
 | .map es clock => ∃ es', w.heap[E.ι b]? = some (.map es' clock) ∧ EntRs E es es'.toList
 | .loop lp n tm => ∃ lp', w.heap[E.ι b]? = some (.loop lp') ∧ LoopR E lp n tm lp'
 | .dfr c => ∃ c', w.heap[E.ι b]? = some (.deferred c') ∧ DfO E c c'
 | .iter m since seen last => w.heap[E.ι b]? = some (.mapIter (m.map E.ι) since ⟨seen⟩ last) ∧ E.sh b = 0 ∧ ∀ r, m = some r → r < E.nx
 | .dead => True
structure Rel (N : Nat) (E : En) (s : St) (w : World) : Prop where
 nx : s.nx = E.nx
 lo : 1000 ≤ E.nx
 hi : E.nx ≤ E.nx + 1
 base : ∀ b, b < 1000 → E.ι b = b ∧ E.sh b = 0
 flr : N ≤ w.heap.size
 ob : ∀ b o, s.hp.get b = some o → b < E.nx ∧ ObR E b w o
 flo : ∀ b o, s.hp.get b = some o → o.rw → N ≤ E.ι b
 dis : ∀ b o b' o', s.hp.get b = some o → s.hp.get b' = some o' → o.rw → o' ≠ .dead → b ≠ b' → E.ι b = E.ι b' → o.grp ≠ 0 ∧ o'.grp = o.grp ∧ E.sh b' = E.sh b
 grp : ∀ b o, s.hp.get b = some o → o.grp ≠ 0 → ∃ ms, s.gr.get o.grp = some ms ∧ b ∈ ms
 ro : ∀ b o, s.hp.get b = some o → o ≠ .dead → ¬ o.rw → E.ι b < N
structure Obs (E : En) (s : St) (w : World) : Prop where
 ob : ∀ b o, s.hp.get b = some o → b < E.nx ∧ ObR E b w o
theorem Rel.obs {N : Nat} {E : En} {s : St} {w : World} (h : Rel N E s w) : Obs E s w := ⟨h.ob⟩
structure Stp (N : Nat) (E : En) (s : St) (w : World) (E' : En) (s' : St) (w' : World) : Prop where
 ext : Ext E E'
 rel : Rel N E' s' w'
 os : w'.os = w.os
 tape : w'.tape = w.tape
 output : w'.output = w.output
 size : w.heap.size ≤ w'.heap.size
 kept : ∀ B, B < w.heap.size → (∀ b o, s.hp.get b = some o → o.rw → E.ι b ≠ B) → w'.heap[B]? = w.heap[B]?
 prov : ∀ b o, s'.hp.get b = some o → o.rw → w.heap.size ≤ E'.ι b ∨ ∃ b0 o0, s.hp.get b0 = some o0 ∧ o0.rw ∧ E.ι b0 = E'.ι b
theorem Stp.refl {N : Nat} {E : En} {s : St} {w : World} (h : Rel N E s w) : Stp N E s w E s w :=
 ⟨.refl E, h, rfl, rfl, rfl, Nat.le_refl _, fun _ _ _ => rfl, fun b o hb ho => .inr ⟨b, o, hb, ho, rfl⟩⟩
theorem Stp.trans {N : Nat} {E E1 E2 : En} {s s1 s2 : St} {w w1 w2 : World} (h : Stp N E s w E1 s1 w1) (k : Stp N E1 s1 w1 E2 s2 w2) : Stp N E s w E2 s2 w2 := by
 refine ⟨h.ext.trans k.ext, k.rel, k.os.trans h.os, k.tape.trans h.tape, k.output.trans h.output, Nat.le_trans h.size k.size, fun B hB hn => ?_, fun b o hb ho => ?_⟩
 ·rw [k.kept B (Nat.lt_of_lt_of_le hB h.size), h.kept B hB hn]
  intro b o hb ho e
  rcases h.prov b o hb ho with h1 | ⟨b0, o0, h1, h2, h3⟩
  ·omega
  ·exact hn b0 o0 h1 h2 (h3.trans e)
 ·rcases k.prov b o hb ho with h1 | ⟨b1, o1, h1, h2, h3⟩
  ·exact .inl (Nat.le_trans h.size h1)
  ·rcases h.prov b1 o1 h1 h2 with h4 | ⟨b0, o0, h4, h5, h6⟩
   ·exact .inl (by omega)
   ·exact .inr ⟨b0, o0, h4, h5, h6.trans h3⟩
theorem Rel.drawn {N : Nat} {E : En} {s : St} {w : World} (h : Rel N E s w) (n : Nat) : Rel N E s { w with drawn := n } := by
 refine ⟨h.nx, h.lo, h.hi, h.base, h.flr, fun b o hb => ⟨(h.ob b o hb).1, ?_⟩, h.flo, h.dis, h.grp, h.ro⟩
 have := (h.ob b o hb).2
 cases o <;> exact this
theorem Stp.drawn {N : Nat} {E : En} {s : St} {w : World} (h : Rel N E s w) (n : Nat) : Stp N E s w E s { w with drawn := n } :=
 ⟨.refl E, h.drawn n, rfl, rfl, rfl, Nat.le_refl _, fun _ _ _ => rfl, fun b o hb ho => .inr ⟨b, o, hb, ho, rfl⟩⟩
theorem EntRs.ext {E E' : En} (X : Ext E E') : ∀ {l l' : List MapEntry}, EntRs E l l' → EntRs E' l l'
 | _, _, .nil => .nil
 | _, _, .cons e e' _ _ h k => .cons e e' _ _ ⟨h.key, h.val.ext X, h.born⟩ (k.ext X)
theorem TmR.ext {E E' : En} (X : Ext E E') {tm : Tr Value} {tmps : Array Value} (h : TmR E tm tmps) : TmR E' tm tmps := fun t => (h t).ext X
theorem LoopR.ext {E E' : En} (X : Ext E E') {lp : Loop} {n : Nat} {tm : Tr Value} {lp' : Loop} (h : LoopR E lp n tm lp') : LoopR E' lp n tm lp' :=
 ⟨h.state, h.pending, h.fn, h.params, h.assign, h.body, Nat.lt_of_lt_of_le h.lt X.nx, by rw [X.ι _ h.lt]; exact h.defers, h.size, h.tmps.ext X⟩
theorem DfR.ext {E E' : En} (X : Ext E E') {d d' : Deferred} (h : DfR E d d') : DfR E' d d' := by
 cases h with
 | fn f y y' x x' hy hx => exact .fn f y y' x x' (hy.ext X) (hx.ext X)
 | col r hr => rw [← X.ι r hr]; exact .col r (Nat.lt_of_lt_of_le hr X.nx)
theorem DfRs.ext {E E' : En} (X : Ext E E') : ∀ {l l' : List Deferred}, DfRs E l l' → DfRs E' l l'
 | _, _, .nil => .nil
 | _, _, .cons d d' _ _ h k => .cons d d' _ _ (h.ext X) (k.ext X)
theorem DfO.ext {E E' : En} (X : Ext E E') {c c' : Option (List Deferred)} (h : DfO E c c') : DfO E' c c' := by
 cases h with
 | none => exact .none
 | some l l' h => exact .some l l' (h.ext X)
theorem CellsR.ext {E E' : En} (X : Ext E E') {sh : Nat} {cs : List Value} {c : Array Value} (h : CellsR E sh cs c) : CellsR E' sh cs c :=
 fun i v hv => let ⟨v', h1, h2⟩ := h i v hv; ⟨v', h1, h2.ext X⟩
theorem ObR.keep {E E' : En} (X : Ext E E') {b : Nat} {o : Ob} {w w' : World} (h : ObR E b w o) (hb : b < E.nx) (hw : w'.heap[E.ι b]? = w.heap[E.ι b]?) : ObR E' b w' o := by
 cases o with
 | row cs g =>
  obtain ⟨c, t, fr, h1, h2, h3, h4⟩ := h
  exact ⟨c, t, fr, by rw [X.ι b hb, hw]; exact h1, by rw [X.sz b hb]; exact h2, h3, by rw [X.sh b hb]; exact h4.ext X⟩
 | ro cs =>
  obtain ⟨c, t, fr, h1, h4⟩ := h
  exact ⟨c, t, fr, by rw [X.ι b hb, hw]; exact h1, by rw [X.sh b hb]; exact h4.ext X⟩
 | map es clock => obtain ⟨es', h1, h2⟩ := h; exact ⟨es', by rw [X.ι b hb, hw]; exact h1, h2.ext X⟩
 | loop lp n tm => obtain ⟨lp', h1, h2⟩ := h; exact ⟨lp', by rw [X.ι b hb, hw]; exact h1, h2.ext X⟩
 | dfr c => obtain ⟨c', h1, h2⟩ := h; exact ⟨c', by rw [X.ι b hb, hw]; exact h1, h2.ext X⟩
 | iter m since seen last =>
  obtain ⟨h1, h2, h3⟩ := h
  refine ⟨?_, by rw [X.sh b hb]; exact h2, fun r hr => Nat.lt_of_lt_of_le (h3 r hr) X.nx⟩
  rw [X.ι b hb, hw, h1]
  cases m with
  | none => rfl
  | some r => rw [Option.map_some, Option.map_some, X.ι r (h3 r rfl)]
 | dead => trivial
theorem ObR.lt {E : En} {b : Nat} {o : Ob} {w : World} (h : ObR E b w o) (hd : o ≠ .dead) : E.ι b < w.heap.size := by
 have : (w.heap[E.ι b]?).isSome = true := by
  cases o with
  | row => obtain ⟨_, _, _, h, _⟩ := h; rw [h]; rfl
  | ro => obtain ⟨_, _, _, h, _⟩ := h; rw [h]; rfl
  | map => obtain ⟨_, h, _⟩ := h; rw [h]; rfl
  | loop => obtain ⟨_, h, _⟩ := h; rw [h]; rfl
  | dfr => obtain ⟨_, h, _⟩ := h; rw [h]; rfl
  | iter => obtain ⟨h, _⟩ := h; rw [h]; rfl
  | dead => exact absurd rfl hd
 rcases Nat.lt_or_ge (E.ι b) w.heap.size with h | h
 ·exact h
 ·rw [Array.getElem?_eq_none h] at this; cases this
def En.push (E : En) (a sh sz : Nat) : En :=
 { nx := E.nx + 1, ι := fun b => if b = E.nx then a else E.ι b, sh := fun b => if b = E.nx then sh else E.sh b, sz := fun b => if b = E.nx then sz else E.sz b }
theorem En.push_ext (E : En) (a sh sz : Nat) : Ext E (E.push a sh sz) := by
 refine ⟨Nat.le_succ _, fun b hb => ?_, fun b hb => ?_, fun b hb => ?_⟩ <;> exact if_neg (by omega)
theorem En.push_ι (E : En) (a sh sz : Nat) : (E.push a sh sz).ι E.nx = a := if_pos rfl
theorem En.push_sh (E : En) (a sh sz : Nat) : (E.push a sh sz).sh E.nx = sh := if_pos rfl
theorem En.push_sz (E : En) (a sh sz : Nat) : (E.push a sh sz).sz E.nx = sz := if_pos rfl
theorem setO_some {hp : Tr Ob} {nx : Nat} {gr : Tr (List Nat)} {b : Nat} {o : Ob} {s : St} (h : setO hp nx gr b o = some s) : s = .mk (hp.set o b) nx gr := by
 unfold setO at h
 cases e : hp.set o b with
 | nil => rw [e] at h; cases h
 | node v a b c d => rw [e] at h; cases h; rfl
theorem newO_some {β : Type} {s : St} {o : Ob} {k : Nat → St → Option β} {r : β} (h : newO s o k = some r) :
  s.nx < s.nx + 1 ∧ k s.nx (.mk (s.hp.set o s.nx) (s.nx + 1) s.gr) = some r := by
 obtain ⟨hp, nx, gr⟩ := s
 have h' : cond (Nat.blt nx (Nat.succ nx)) (Tr.casesOn (motive := fun _ => Option β) (hp.set o nx) none fun v a b c d => fN (Nat.succ nx) fun n => k nx (.mk (.node v a b c d) n gr)) none = some r := h
 cases hb : Nat.blt nx (Nat.succ nx) with
 | false => rw [hb] at h'; cases h'
 | true =>
  rw [hb] at h'
  refine ⟨Nat.le_of_ble_eq_true hb, ?_⟩
  show k nx (.mk (hp.set o nx) (nx + 1) gr) = some r
  cases e : hp.set o nx with
  | nil => rw [e] at h'; cases h'
  | node v a b c d => rw [e] at h'; exact (fN_eq (Nat.succ nx) fun n => k nx (.mk (.node v a b c d) n gr)).symm.trans h'
theorem stp_new {N : Nat} {E : En} {s : St} {w w' : World} (h : Rel N E s w) (hn : s.nx < s.nx + 1) {o : Ob} {o' : Obj} {sz : Nat} (hg : o.grp = 0) (hrw : o.rw)
  (hw : w'.heap = w.heap.push o') (hos : w'.os = w.os) (htp : w'.tape = w.tape) (hout : w'.output = w.output)
  (ho : ObR (E.push w.heap.size 0 sz) E.nx w' o) :
  Stp N E s w (E.push w.heap.size 0 sz) (.mk (s.hp.set o s.nx) (s.nx + 1) s.gr) w' := by
 have X := En.push_ext E w.heap.size 0 sz
 have old : ∀ B, B < w.heap.size → w'.heap[B]? = w.heap[B]? := fun B hB => by rw [hw, Array.getElem?_push, if_neg (by omega)]
 have hsz : w'.heap.size = w.heap.size + 1 := by rw [hw]; simp
 have gets : ∀ b, (s.hp.set o s.nx).get b = if b = E.nx then some o else s.hp.get b := fun b => by
  rw [Tr.get_set _ _ _ (by have := h.hi; have := h.nx; omega), h.nx]
 have ι' : ∀ b, b < E.nx → (E.push w.heap.size 0 sz).ι b = E.ι b := X.ι
 refine ⟨X, ⟨by show s.nx + 1 = E.nx + 1; rw [h.nx], Nat.le_trans h.lo (Nat.le_succ _), by show E.nx + 1 ≤ E.nx + 1 + 1; rw [← h.nx]; omega, fun b hb => ?_, by rw [hsz]; exact Nat.le_succ_of_le h.flr, fun b ob hb => ?_, fun b ob hb hr => ?_, fun b ob b' ob' hb hb' hr hd hne he => ?_, fun b ob hb hgr => ?_, fun b ob hb hd hr => ?_⟩, hos, htp, hout, by rw [hsz]; omega, fun B hB _ => old B hB, fun b ob hb hr => ?_⟩
 ·have hb' : b < E.nx := Nat.lt_of_lt_of_le hb h.lo
  rw [X.ι b hb', X.sh b hb']; exact h.base b hb
 ·rw [show (St.mk (s.hp.set o s.nx) (s.nx + 1) s.gr).hp = s.hp.set o s.nx from rfl, gets] at hb
  split at hb
  ·rename_i e; cases hb; subst e; exact ⟨Nat.lt_succ_self _, ho⟩
  ·obtain ⟨h1, h2⟩ := h.ob b ob hb
   refine ⟨Nat.lt_succ_of_lt h1, ?_⟩
   by_cases e : ob = .dead
   ·subst e; trivial
   ·exact h2.keep X h1 (old _ (h2.lt e))
 ·rw [show (St.mk (s.hp.set o s.nx) (s.nx + 1) s.gr).hp = s.hp.set o s.nx from rfl, gets] at hb
  split at hb
  ·rename_i e; subst e; rw [En.push_ι]; exact h.flr
  ·rw [ι' b (h.ob b ob hb).1]; exact h.flo b ob hb hr
 ·rw [show (St.mk (s.hp.set o s.nx) (s.nx + 1) s.gr).hp = s.hp.set o s.nx from rfl, gets] at hb hb'
  split at hb
  ·rename_i e
   subst e
   rw [if_neg (fun e => hne e.symm)] at hb'
   have := (h.ob b' ob' hb').2.lt hd
   rw [En.push_ι, ι' b' (h.ob b' ob' hb').1] at he
   omega
  ·have h1 := (h.ob b ob hb).1
   split at hb'
   ·rename_i e
    subst e
    have := (h.ob b ob hb).2.lt (fun e => by subst e; exact hr)
    rw [En.push_ι, ι' b h1] at he
    omega
   ·have h2 := (h.ob b' ob' hb').1
    rw [ι' b h1, ι' b' h2] at he
    rw [X.sh b h1, X.sh b' h2]
    exact h.dis b ob b' ob' hb hb' hr hd hne he
 ·rw [show (St.mk (s.hp.set o s.nx) (s.nx + 1) s.gr).hp = s.hp.set o s.nx from rfl, gets] at hb
  split at hb
  ·cases hb; exact absurd hg hgr
  ·exact h.grp b ob hb hgr
 ·rw [show (St.mk (s.hp.set o s.nx) (s.nx + 1) s.gr).hp = s.hp.set o s.nx from rfl, gets] at hb
  split at hb
  ·cases hb; exact absurd hrw hr
  ·rw [ι' b (h.ob b ob hb).1]; exact h.ro b ob hb hd hr
 ·rw [show (St.mk (s.hp.set o s.nx) (s.nx + 1) s.gr).hp = s.hp.set o s.nx from rfl, gets] at hb
  split at hb
  ·rename_i e; subst e; rw [En.push_ι]; exact .inl (Nat.le_refl _)
  ·exact .inr ⟨b, ob, hb, hr, (ι' b (h.ob b ob hb).1).symm⟩
end Go.Ev
namespace Go.Proofs.YtcnhinnpieehoaaGreatDoor.Nz
inductive It where
 | mk (l : Bool) (b : List Nat) (xs : List It)
def It.l : It → Bool | .mk l _ _ => l
def It.b : It → List Nat | .mk _ b _ => b
def It.xs : It → List It | .mk _ _ xs => xs
theorem It.eta (x : It) : x = .mk x.l x.b x.xs := by cases x; rfl
def gd (s : List Nat) (i : Nat) : Nat := s.getD i 0
mutual
def dp : It → Nat
 | .mk l _ xs => if l then 1 + dpL xs else 0
def dpL : List It → Nat
 | [] => 0
 | x :: xs => max (dp x) (dpL xs)
end
theorem dp_mk (l b xs) : dp (.mk l b xs) = if l then 1 + dpL xs else 0 := by rw [dp]
theorem dpL_nil : dpL [] = 0 := by rw [dpL]
theorem dpL_cons (x xs) : dpL (x :: xs) = max (dp x) (dpL xs) := by rw [dpL]
mutual
def may : It → Bool
 | .mk l b xs => if l then (b.isEmpty && mayL xs) else xs.isEmpty
def mayL : List It → Bool
 | [] => true
 | x :: xs => may x && mayL xs
end
theorem may_mk (l b xs) : may (.mk l b xs) = if l then (b.isEmpty && mayL xs) else xs.isEmpty := by rw [may]
theorem mayL_nil : mayL [] = true := by rw [mayL]
theorem mayL_cons (x xs) : mayL (x :: xs) = (may x && mayL xs) := by rw [mayL]
def dg : Nat → Nat → List Nat
 | 0, _ => []
 | f + 1, n => if n = 0 then [] else dg f (n / 256) ++ [n % 256]
def digs (n : Nat) : List Nat := dg n n
theorem dg_fuel (f g n : Nat) (h1 : n ≤ f) (h2 : n ≤ g) : dg f n = dg g n := by
 induction f generalizing g n with
 | zero =>
   obtain rfl : n = 0 := by omega
   cases g <;> simp [dg]
 | succ f ih =>
  cases g with
  | zero =>
    obtain rfl : n = 0 := by omega
    simp [dg]
  | succ g =>
   unfold dg
   by_cases h : n = 0
   ·simp [h]
   ·rw [if_neg h, if_neg h, ih g (n / 256) (by omega) (by omega)]
theorem digs_pos {n : Nat} (h : 0 < n) : digs n = digs (n / 256) ++ [n % 256] := by
 unfold digs
 cases n with
 | zero => omega
 | succ n => rw [dg, if_neg (by omega), dg_fuel n ((n + 1) / 256) _ (by omega) (by omega)]
def num (s : List Nat) : Nat := s.foldl (fun n x => n * 256 + x) 0
theorem num_app1 (s : List Nat) (x : Nat) : num (s ++ [x]) = num s * 256 + x := by simp [num]
theorem num_inj_digs {s : List Nat} (hb : ∀ x ∈ s, x < 256) (hf : gd s 0 ≠ 0 ∨ s = []) : digs (num s) = s := by
 suffices ∀ (m : Nat) (s : List Nat), s.length = m → (∀ x ∈ s, x < 256) → (gd s 0 ≠ 0 ∨ s = []) → digs (num s) = s ∧ (s ≠ [] → 0 < num s) from (this _ s rfl hb hf).1
 intro m
 induction m with
 | zero =>
   intro s h _ _
   obtain rfl : s = [] := List.eq_nil_of_length_eq_zero h
   exact ⟨rfl, fun h => absurd rfl h⟩
 | succ m ih =>
  intro s hl hb hf
  obtain ⟨t, x, rfl⟩ : ∃ t x, s = t ++ [x] := ⟨s.dropLast, s.getLast (by intro e; simp [e] at hl), (List.dropLast_concat_getLast _).symm⟩
  have lt : t.length = m := by simpa using hl
  have hx : x < 256 := hb x (by simp)
  have ht : gd t 0 ≠ 0 ∨ t = [] := by
   cases t with
   | nil => exact Or.inr rfl
   | cons y t =>
     left; rcases hf with hf | hf
     ·simpa [gd] using hf
     ·simp at hf
  obtain ⟨h1, h2⟩ := ih t lt (fun y hy => hb y (by simp [hy])) ht
  have hp : 0 < num (t ++ [x]) := by
   rw [num_app1]
   by_cases e : t = []
   ·subst e
    have : x ≠ 0 := by
     rcases hf with hf | hf
     ·simpa [gd] using hf
     ·simp at hf
    omega
   ·have := h2 e; omega
  refine ⟨?_, fun _ => hp⟩
  rw [digs_pos hp, num_app1, show (num t * 256 + x) / 256 = num t by omega, show (num t * 256 + x) % 256 = x by omega, h1]
def alone (b : List Nat) : Bool := decide (b.length = 1) && decide (gd b 0 < 128)
def hdr (base n : Nat) : List Nat := if n < 56 then [base + n] else (base + 55 + (digs n).length) :: digs n
mutual
def form : It → List Nat
 | .mk l b xs => if l then hdr 192 (forms xs).length ++ forms xs else if alone b then b else hdr 128 b.length ++ b
def forms : List It → List Nat
 | [] => []
 | x :: xs => form x ++ forms xs
end
theorem form_mk (l b xs) : form (.mk l b xs) = if l then hdr 192 (forms xs).length ++ forms xs else if alone b then b else hdr 128 b.length ++ b := by rw [form]
theorem forms_nil : forms [] = [] := by rw [forms]
theorem forms_cons (x xs) : forms (x :: xs) = form x ++ forms xs := by rw [forms]
theorem hdr_pos (base n : Nat) : 0 < (hdr base n).length := by unfold hdr; split <;> simp
theorem form_pos (x : It) : 0 < (form x).length := by
 cases x with
 | mk l b xs =>
  rw [form_mk]
  split
  ·have := hdr_pos 192 (forms xs).length; simp; omega
  ·split
   ·rename_i h; simp [alone] at h; omega
   ·have := hdr_pos 128 b.length; simp; omega
inductive Rd where
 | ok (x : It) (e : Nat)
 | bad (p e : Nat)
def cut (s : List Nat) (a e : Nat) : List Nat := (s.take e).drop a
inductive Hd where
 | ok (a e : Nat)
 | bad (e : Nat)
def rdHead (s : List Nat) (p e m : Nat) : Hd :=
 if m < 56 then (if e - (p + 1) < m then .bad 50 else .ok (p + 1) (p + 1 + m))
 else if e - (p + 1) < m - 55 then .bad 50
 else if gd s (p + 1) = 0 then .bad 52
 else if 1048576 < num (cut s (p + 1) (p + 1 + (m - 55))) then .bad 54
 else if num (cut s (p + 1) (p + 1 + (m - 55))) < 56 then .bad 52
 else if e - (p + 1 + (m - 55)) < num (cut s (p + 1) (p + 1 + (m - 55))) then .bad 50
 else .ok (p + 1 + (m - 55)) (p + 1 + (m - 55) + num (cut s (p + 1) (p + 1 + (m - 55))))
def rdL (f : Nat → Nat → Rd) : Nat → Nat → Nat → List It → Rd
 | 0, _, e, acc => .ok (.mk true [] acc) e
 | n + 1, a, e, acc =>
  if a < e then
   match f a e with
   | .bad p c => .bad p c
   | .ok y a' => rdL f n a' e (acc ++ [y])
  else .ok (.mk true [] acc) e
def rdG (s : List Nat) (sub : Option (Nat → Nat → Rd)) (p e : Nat) : Rd :=
 if p = e then .bad p 50
 else if gd s p < 128 then .ok (.mk false [gd s p] []) (p + 1)
 else if gd s p < 192 then
  match rdHead s p e (gd s p - 128) with
  | .bad c => .bad p c
  | .ok a z => if z = a + 1 ∧ gd s a < 128 then .bad p 52 else .ok (.mk false (cut s a z) []) z
 else
  match sub with
  | none => .bad p 53
  | some f =>
   match rdHead s p e (gd s p - 192) with
   | .bad c => .bad p c
   | .ok a z => rdL f (z - a) a z []
def rd (s : List Nat) : Nat → Nat → Nat → Rd
 | 0 => rdG s none
 | d + 1 => rdG s (some (rd s d))
theorem rd_eq (s : List Nat) (d p e : Nat) : rd s d p e =
  if p = e then .bad p 50
  else if gd s p < 128 then .ok (.mk false [gd s p] []) (p + 1)
  else if gd s p < 192 then
   match rdHead s p e (gd s p - 128) with
   | .bad c => .bad p c
   | .ok a z => if z = a + 1 ∧ gd s a < 128 then .bad p 52 else .ok (.mk false (cut s a z) []) z
  else if d = 0 then .bad p 53
  else
    match rdHead s p e (gd s p - 192) with
    | .bad c => .bad p c
    | .ok a z => rdL (rd s (d - 1)) (z - a) a z [] := by
 cases d with
 | zero => rw [rd, rdG, if_pos (rfl : 0 = 0)]
 | succ d => rw [rd, rdG, if_neg (Nat.succ_ne_zero d), Nat.add_sub_cancel]
inductive Dec where
 | ok (x : It)
 | bad (p e : Nat)
def dec (s : List Nat) : Dec :=
 if 1048576 < s.length then .bad 0 54
 else match rd s 80 0 s.length with
  | .bad p e => .bad p e
  | .ok x e => if e < s.length then .bad e 51 else .ok x
def encE (x : It) : Nat := if 80 < dp x then 53 else if may x = false then 52 else if 1048576 < (form x).length then 54 else 0
def enc (x : It) : List Nat := if encE x = 0 then form x else []
theorem cut_len {s : List Nat} {a e : Nat} (h : e ≤ s.length) : (cut s a e).length = e - a := by simp [cut, Nat.min_eq_left h]
theorem cut_gd {s : List Nat} {a e i : Nat} (hi : a + i < e) : gd (cut s a e) i = gd s (a + i) := by
 unfold gd cut
 rw [List.getD_eq_getElem?_getD, List.getD_eq_getElem?_getD, List.getElem?_drop, List.getElem?_take, if_pos hi]
theorem gd_get {s : List Nat} {i : Nat} (h : i < s.length) : s[i] = gd s i := by
 unfold gd
 rw [List.getD_eq_getElem?_getD, List.getElem?_eq_getElem h]
 rfl
theorem ext_gd {s t : List Nat} (hl : s.length = t.length) (h : ∀ i, i < s.length → gd s i = gd t i) : s = t :=
 List.ext_getElem hl (fun i h1 h2 => by rw [gd_get h1, gd_get h2, h i h1])
theorem gd_app_l {s t : List Nat} {i : Nat} (h : i < s.length) : gd (s ++ t) i = gd s i := by
 unfold gd; rw [List.getD_eq_getElem?_getD, List.getD_eq_getElem?_getD, List.getElem?_append_left h]
theorem gd_app_r {s t : List Nat} {i : Nat} : gd (s ++ t) (s.length + i) = gd t i := by
 unfold gd; rw [List.getD_eq_getElem?_getD, List.getD_eq_getElem?_getD, List.getElem?_append_right (by omega), Nat.add_sub_cancel_left]
theorem cut_mem {s : List Nat} {a e x : Nat} (h : x ∈ cut s a e) : x ∈ s := List.mem_of_mem_take (List.mem_of_mem_drop h)
theorem cut_cat {s : List Nat} {a b c : Nat} (h1 : a ≤ b) (h2 : b ≤ c) (h3 : c ≤ s.length) : cut s a b ++ cut s b c = cut s a c := by
 apply ext_gd
 ·rw [List.length_append, cut_len (by omega), cut_len h3, cut_len h3]; omega
 ·intro i hi
  rw [List.length_append, cut_len (by omega), cut_len h3] at hi
  by_cases h : i < b - a
  ·rw [gd_app_l (by rw [cut_len (by omega)]; exact h), cut_gd (by omega), cut_gd (by omega)]
  ·have lc : (cut s a b).length = b - a := cut_len (by omega)
   obtain ⟨j, rfl⟩ : ∃ j, i = (cut s a b).length + j := ⟨i - (b - a), by omega⟩
   rw [gd_app_r, lc, cut_gd (by omega), cut_gd (by omega)]
   congr 1
   omega
theorem cut_one {s : List Nat} {p : Nat} (h : p < s.length) : cut s p (p + 1) = [gd s p] := by
 apply ext_gd
 ·rw [cut_len (by omega)]; simp
 ·intro i hi
  rw [cut_len (by omega)] at hi
  obtain rfl : i = 0 := by omega
  rw [cut_gd (by omega)]
  rfl
def At (t : List Nat) (p : Nat) (s : List Nat) : Prop := ∀ i, i < s.length → gd t (p + i) = gd s i
theorem At.left {t s u : List Nat} {p : Nat} (h : At t p (s ++ u)) : At t p s := fun i hi => by rw [h i (by simp; omega), gd_app_l hi]
theorem At.right {t s u : List Nat} {p : Nat} (h : At t p (s ++ u)) : At t (p + s.length) u := fun i hi => by rw [Nat.add_assoc, h (s.length + i) (by simp; omega), gd_app_r]
theorem At.cut {t s : List Nat} {p : Nat} (h : At t p s) (hl : p + s.length ≤ t.length) : cut t p (p + s.length) = s := ext_gd (by rw [cut_len hl]; omega) (fun i hi => by
 rw [cut_len hl] at hi
 rw [cut_gd (by omega), h i (by omega)])
theorem At.self (s : List Nat) : At s 0 s := fun i _ => by rw [Nat.zero_add]
theorem rdHead_ok {s : List Nat} {p e m a z base : Nat} (hs : ∀ x ∈ s, x < 256) (he : e ≤ s.length) (hp : p < e) (hg : gd s p = base + m) (hm : m < 64) (h : rdHead s p e m = .ok a z) : p < a ∧ a ≤ z ∧ z ≤ e ∧ z - a ≤ 1048576 + 55 ∧ hdr base (z - a) = cut s p a := by
 unfold rdHead at h
 by_cases h1 : m < 56
 ·rw [if_pos h1] at h
  by_cases h2 : e - (p + 1) < m
  ·rw [if_pos h2] at h; cases h
  ·rw [if_neg h2] at h
   injection h with ha hz
   subst ha
   subst hz
   refine ⟨by omega, by omega, by omega, by omega, ?_⟩
   unfold hdr
   rw [show p + 1 + m - (p + 1) = m by omega, if_pos h1, cut_one (by omega), hg]
 ·rw [if_neg h1] at h
  by_cases h2 : e - (p + 1) < m - 55
  ·rw [if_pos h2] at h; cases h
  ·rw [if_neg h2] at h
   by_cases h3 : gd s (p + 1) = 0
   ·rw [if_pos h3] at h; cases h
   ·rw [if_neg h3] at h
    by_cases h4 : 1048576 < num (cut s (p + 1) (p + 1 + (m - 55)))
    ·rw [if_pos h4] at h; cases h
    ·rw [if_neg h4] at h
     by_cases h5 : num (cut s (p + 1) (p + 1 + (m - 55))) < 56
     ·rw [if_pos h5] at h; cases h
     ·rw [if_neg h5] at h
      by_cases h6 : e - (p + 1 + (m - 55)) < num (cut s (p + 1) (p + 1 + (m - 55)))
      ·rw [if_pos h6] at h; cases h
      ·rw [if_neg h6] at h
       injection h with ha hz
       subst ha
       subst hz
       refine ⟨by omega, by omega, by omega, by omega, ?_⟩
       have hd := num_inj_digs (s := cut s (p + 1) (p + 1 + (m - 55))) (fun x hx => hs x (cut_mem hx)) (Or.inl (by rw [cut_gd (by omega)]; exact h3))
       have hln : (cut s (p + 1) (p + 1 + (m - 55))).length = m - 55 := by rw [cut_len (by omega)]; omega
       unfold hdr
       rw [Nat.add_sub_cancel_left, if_neg h5, hd, hln, ← cut_cat (s := s) (a := p) (b := p + 1) (c := p + 1 + (m - 55)) (by omega) (by omega) (by omega), cut_one (by omega), hg, show base + m = base + 55 + (m - 55) by omega]
       rfl
theorem rdL_ok {s : List Nat} {d : Nat}
  (ih : ∀ p e x z, e ≤ s.length → p ≤ e → rd s d p e = .ok x z → p < z ∧ z ≤ e ∧ may x = true ∧ dp x ≤ d ∧ form x = cut s p z) :
  ∀ (n a z : Nat) (acc : List It) (x : It) (e : Nat), z ≤ s.length → a ≤ z → z - a ≤ n → rdL (rd s d) n a z acc = .ok x e → ∃ ys, x = .mk true [] (acc ++ ys) ∧ e = z ∧ mayL ys = true ∧ dpL ys ≤ d ∧ forms ys = cut s a z := by
 intro n
 induction n with
 | zero =>
  intro a z acc x e hz haz hn h
  obtain rfl : a = z := by omega
  rw [rdL] at h
  injection h with h1 h2
  subst h1
  subst h2
  refine ⟨[], by simp, rfl, mayL_nil, by rw [dpL_nil]; omega, ?_⟩
  rw [forms_nil]
  exact (List.eq_nil_of_length_eq_zero (by rw [cut_len hz]; omega)).symm
 | succ n ihn =>
  intro a z acc x e hz haz hn h
  rw [rdL] at h
  by_cases q : a < z
  ·rw [if_pos q] at h
   cases hr : rd s d a z with
   | bad p c => rw [hr] at h; cases h
   | ok y a' =>
    rw [hr] at h
    dsimp only at h
    obtain ⟨k1, k2, k3, k4, k5⟩ := ih a z y a' hz haz hr
    obtain ⟨ys, e1, e2, e3, e4, e5⟩ := ihn a' z (acc ++ [y]) x e hz k2 (by omega) h
    refine ⟨y :: ys, by rw [e1]; simp, e2, by rw [mayL_cons, k3, e3]; rfl, by rw [dpL_cons]; omega, ?_⟩
    rw [forms_cons, k5, e5, cut_cat (by omega) k2 hz]
  ·rw [if_neg q] at h
   obtain rfl : a = z := by omega
   injection h with h1 h2
   subst h1
   subst h2
   refine ⟨[], by simp, rfl, mayL_nil, by rw [dpL_nil]; omega, ?_⟩
   rw [forms_nil]
   exact (List.eq_nil_of_length_eq_zero (by rw [cut_len hz]; omega)).symm
theorem rd_ok {s : List Nat} (hs : ∀ x ∈ s, x < 256) : ∀ (d p e : Nat) (x : It) (z : Nat), e ≤ s.length → p ≤ e → rd s d p e = .ok x z → p < z ∧ z ≤ e ∧ may x = true ∧ dp x ≤ d ∧ form x = cut s p z := by
 have gb : ∀ i, gd s i < 256 := fun i => by
  unfold gd
  rw [List.getD_eq_getElem?_getD]
  cases hi : s[i]? with
  | none => decide
  | some x => exact hs x (List.mem_of_getElem? hi)
 intro d
 induction d with
 | zero =>
  intro p e x z he hpe h
  rw [rd_eq] at h
  by_cases h1 : p = e
  ·rw [if_pos h1] at h; cases h
  ·rw [if_neg h1] at h
   by_cases h2 : gd s p < 128
   ·rw [if_pos h2] at h
    injection h with hx hz
    subst hx
    subst hz
    refine ⟨by omega, by omega, by rw [may_mk]; simp, by rw [dp_mk]; simp, ?_⟩
    rw [form_mk, cut_one (by omega), if_neg (by simp), if_pos (by simpa [alone, gd] using h2)]
   ·rw [if_neg h2] at h
    by_cases h3 : gd s p < 192
    ·rw [if_pos h3] at h
     cases hh : rdHead s p e (gd s p - 128) with
     | bad c => rw [hh] at h; cases h
     | ok a z' =>
      rw [hh] at h
      dsimp only at h
      by_cases h4 : z' = a + 1 ∧ gd s a < 128
      ·rw [if_pos h4] at h; cases h
      ·rw [if_neg h4] at h
       injection h with hx hz
       subst hx
       subst hz
       obtain ⟨k1, k2, k3, k4, k5⟩ := rdHead_ok (base := 128) hs he (by omega) (by omega) (by omega) hh
       have lz : (cut s a z').length = z' - a := cut_len (by omega)
       refine ⟨by omega, by omega, by rw [may_mk]; simp, by rw [dp_mk]; simp, ?_⟩
       have na : ¬ alone (cut s a z') = true := fun q => by
        obtain ⟨q1, q2⟩ : (cut s a z').length = 1 ∧ gd (cut s a z') 0 < 128 := by simpa [alone] using q
        rw [lz] at q1
        rw [cut_gd (by omega), Nat.add_zero] at q2
        exact h4 ⟨by omega, q2⟩
       rw [form_mk, if_neg (by simp), if_neg na, lz, k5, cut_cat (by omega) k2 (by omega)]
    ·rw [if_neg h3, if_pos rfl] at h; cases h
 | succ d ihd =>
  intro p e x z he hpe h
  rw [rd_eq] at h
  by_cases h1 : p = e
  ·rw [if_pos h1] at h; cases h
  ·rw [if_neg h1] at h
   by_cases h2 : gd s p < 128
   ·rw [if_pos h2] at h
    injection h with hx hz
    subst hx
    subst hz
    refine ⟨by omega, by omega, by rw [may_mk]; simp, by rw [dp_mk]; simp, ?_⟩
    rw [form_mk, cut_one (by omega), if_neg (by simp), if_pos (by simpa [alone, gd] using h2)]
   ·rw [if_neg h2] at h
    by_cases h3 : gd s p < 192
    ·rw [if_pos h3] at h
     cases hh : rdHead s p e (gd s p - 128) with
     | bad c => rw [hh] at h; cases h
     | ok a z' =>
      rw [hh] at h
      dsimp only at h
      by_cases h4 : z' = a + 1 ∧ gd s a < 128
      ·rw [if_pos h4] at h; cases h
      ·rw [if_neg h4] at h
       injection h with hx hz
       subst hx
       subst hz
       obtain ⟨k1, k2, k3, k4, k5⟩ := rdHead_ok (base := 128) hs he (by omega) (by omega) (by omega) hh
       have lz : (cut s a z').length = z' - a := cut_len (by omega)
       refine ⟨by omega, by omega, by rw [may_mk]; simp, by rw [dp_mk]; simp, ?_⟩
       have na : ¬ alone (cut s a z') = true := fun q => by
        obtain ⟨q1, q2⟩ : (cut s a z').length = 1 ∧ gd (cut s a z') 0 < 128 := by simpa [alone] using q
        rw [lz] at q1
        rw [cut_gd (by omega), Nat.add_zero] at q2
        exact h4 ⟨by omega, q2⟩
       rw [form_mk, if_neg (by simp), if_neg na, lz, k5, cut_cat (by omega) k2 (by omega)]
    ·rw [if_neg h3, if_neg (by omega)] at h
     cases hh : rdHead s p e (gd s p - 192) with
     | bad c => rw [hh] at h; cases h
     | ok a z' =>
      rw [hh] at h
      dsimp only at h
      have := gb p
      obtain ⟨k1, k2, k3, k4, k5⟩ := rdHead_ok (base := 192) hs he (by omega) (by omega) (by omega) hh
      obtain ⟨ys, e1, e2, e3, e4, e5⟩ := rdL_ok (d := d) ihd (z' - a) a z' [] x z (by omega) k2 (Nat.le_refl _) (by simpa using h)
      subst e1
      subst e2
      simp only [List.nil_append]
      refine ⟨by omega, by omega, by rw [may_mk]; simp [e3], by rw [dp_mk]; simp; omega, ?_⟩
      rw [form_mk, if_pos rfl, e5, cut_len (by omega), k5, cut_cat (by omega) k2 (by omega)]
end Go.Proofs.YtcnhinnpieehoaaGreatDoor.Nz
