import Derived.Test.YteldpcbhfbgomaaGreatDoorE1zz
import Derived.Test.YteldpcbhfbgomaaGreatDoorChecked
import Derived.WalkKit
import Derived.Deep.OwnRows
import Derived.Deep.LoopGhost
import Derived.Deep.QuietTactic
import Derived.BigQuiet
import Derived.Deep.Light
import Derived.Laws.BytesArg
import Derived.WalkSmall
import Derived.Laws.BitsAllLaws
namespace Go.Ev
open Go
def St.hp : St → Tr Ob | .mk hp _ _ => hp
def St.nx : St → Nat | .mk _ nx _ => nx
def St.gr : St → Tr (List Nat) | .mk _ _ gr => gr
theorem St.eta (s : St) : s = .mk s.hp s.nx s.gr := by cases s; rfl
def Ob.rw : Ob → Prop
 | .ro _ => False
 | .dead => False
 | _ => True
def Ob.grp : Ob → Nat
 | .row _ g => g
 | _ => 0
structure EntR (E : En) (e e' : MapEntry) : Prop where
 key : e'.key = e.key
 val : VR E e.val e'.val
 born : e'.born = e.born
inductive EntRs (E : En) : List MapEntry → List MapEntry → Prop
 | nil : EntRs E [] []
 | cons (e e' : MapEntry) (l l' : List MapEntry) : EntR E e e' → EntRs E l l' → EntRs E (e :: l) (e' :: l')
def TmR (E : En) (tm : Tr Value) (tmps : Array Value) : Prop := ∀ t, VR E (orUndef (tm.get t)) (tmps.getD t undef)
structure LoopR (E : En) (lp : Loop) (n : Nat) (tm : Tr Value) (lp' : Loop) : Prop where
 state : lp'.state = lp.state
 pending : lp'.pending = lp.pending
 fn : lp'.fn = lp.fn
 params : lp'.params = lp.params
 assign : lp'.assign = lp.assign
 body : lp'.body = lp.body
 lt : lp.defers < E.nx
 defers : lp'.defers = E.ι lp.defers
 size : lp'.tmps.size = n
 tmps : TmR E tm lp'.tmps
inductive DfR (E : En) : Deferred → Deferred → Prop
 | fn (f : FuncId) (y y' x x' : List Value) : VRs E y y' → VRs E x x' → DfR E ⟨.fn (.func f) ⟨y⟩, ⟨x⟩⟩ ⟨.fn (.func f) ⟨y'⟩, ⟨x'⟩⟩
 | col (r : Nat) : r < E.nx → DfR E ⟨.collected r, #[]⟩ ⟨.collected (E.ι r), #[]⟩
inductive DfRs (E : En) : List Deferred → List Deferred → Prop
 | nil : DfRs E [] []
 | cons (d d' : Deferred) (l l' : List Deferred) : DfR E d d' → DfRs E l l' → DfRs E (d :: l) (d' :: l')
inductive DfO (E : En) : Option (List Deferred) → Option (List Deferred) → Prop
 | none : DfO E none none
 | some (l l' : List Deferred) : DfRs E l l' → DfO E (some l) (some l')
def CellsR (E : En) (sh : Nat) (cs : List Value) (c : Array Value) : Prop := ∀ i v, cs[i]? = some v → ∃ v', c[sh + i]? = some v' ∧ VR E v v'
def Thaw (fr : Nat × Nat) (n : Nat) : Prop := fr.1 = fr.2 ∨ n ≤ fr.1
theorem Thaw.not {fr : Nat × Nat} {n : Nat} (h : Thaw fr n) (i : Nat) (hi : i < n) : ¬ (fr.1 ≤ i ∧ i < fr.2) := fun ⟨a, b⟩ => by rcases h with h | h <;> omega
def ObR (E : En) (b : Nat) (w : World) : Ob → Prop
 | .row cs _ => ∃ c t fr, w.heap[E.ι b]? = some (.cells c t fr) ∧ c.size = E.sz b ∧ Thaw fr c.size ∧ CellsR E (E.sh b) cs c
 | .ro cs => ∃ c ty fr, w.heap[E.ι b]? = some (.cells c ty fr) ∧ CellsR E (E.sh b) cs c
 | .map es clock => ∃ es', w.heap[E.ι b]? = some (.map es' clock) ∧ EntRs E es es'.toList
 | .loop lp n tm => ∃ lp', w.heap[E.ι b]? = some (.loop lp') ∧ LoopR E lp n tm lp'
 | .dfr c => ∃ c', w.heap[E.ι b]? = some (.deferred c') ∧ DfO E c c'
 | .dead => True
structure Rel (N : Nat) (E : En) (s : St) (w : World) : Prop where
 nx : s.nx = E.nx
 lo : 1000 ≤ E.nx
 hi : E.nx ≤ E.nx + 1
 base : ∀ b, b < 1000 → E.ι b = b ∧ E.sh b = 0
 flr : N ≤ w.heap.size
 ob : ∀ b o, s.hp.get b = some o → b < E.nx ∧ ObR E b w o
 flo : ∀ b o, s.hp.get b = some o → o.rw → N ≤ E.ι b
 dis : ∀ b o b' o', s.hp.get b = some o → s.hp.get b' = some o' → o.rw → o' ≠ .dead → b ≠ b' → E.ι b = E.ι b' → o.grp ≠ 0 ∧ o'.grp = o.grp ∧ E.sh b' = E.sh b
 grp : ∀ b o, s.hp.get b = some o → o.grp ≠ 0 → ∃ ms, s.gr.get o.grp = some ms ∧ b ∈ ms
 ro : ∀ b o, s.hp.get b = some o → o ≠ .dead → ¬ o.rw → E.ι b < N
structure Obs (E : En) (s : St) (w : World) : Prop where
 ob : ∀ b o, s.hp.get b = some o → b < E.nx ∧ ObR E b w o
theorem Rel.obs {N : Nat} {E : En} {s : St} {w : World} (h : Rel N E s w) : Obs E s w := ⟨h.ob⟩
structure Stp (N : Nat) (E : En) (s : St) (w : World) (E' : En) (s' : St) (w' : World) : Prop where
 ext : Ext E E'
 rel : Rel N E' s' w'
 os : w'.os = w.os
 tape : w'.tape = w.tape
 output : w'.output = w.output
 size : w.heap.size ≤ w'.heap.size
 kept : ∀ B, B < w.heap.size → (∀ b o, s.hp.get b = some o → o.rw → E.ι b ≠ B) → w'.heap[B]? = w.heap[B]?
 prov : ∀ b o, s'.hp.get b = some o → o.rw → w.heap.size ≤ E'.ι b ∨ ∃ b0 o0, s.hp.get b0 = some o0 ∧ o0.rw ∧ E.ι b0 = E'.ι b
theorem Stp.refl {N : Nat} {E : En} {s : St} {w : World} (h : Rel N E s w) : Stp N E s w E s w :=
 ⟨.refl E, h, rfl, rfl, rfl, Nat.le_refl _, fun _ _ _ => rfl, fun b o hb ho => .inr ⟨b, o, hb, ho, rfl⟩⟩
theorem Stp.trans {N : Nat} {E E1 E2 : En} {s s1 s2 : St} {w w1 w2 : World} (h : Stp N E s w E1 s1 w1) (k : Stp N E1 s1 w1 E2 s2 w2) : Stp N E s w E2 s2 w2 := by
 refine ⟨h.ext.trans k.ext, k.rel, k.os.trans h.os, k.tape.trans h.tape, k.output.trans h.output, Nat.le_trans h.size k.size, fun B hB hn => ?_, fun b o hb ho => ?_⟩
 ·rw [k.kept B (Nat.lt_of_lt_of_le hB h.size), h.kept B hB hn]
  intro b o hb ho e
  rcases h.prov b o hb ho with h1 | ⟨b0, o0, h1, h2, h3⟩
  ·omega
  ·exact hn b0 o0 h1 h2 (h3.trans e)
 ·rcases k.prov b o hb ho with h1 | ⟨b1, o1, h1, h2, h3⟩
  ·exact .inl (Nat.le_trans h.size h1)
  ·rcases h.prov b1 o1 h1 h2 with h4 | ⟨b0, o0, h4, h5, h6⟩
   ·exact .inl (by omega)
   ·exact .inr ⟨b0, o0, h4, h5, h6.trans h3⟩
theorem Rel.drawn {N : Nat} {E : En} {s : St} {w : World} (h : Rel N E s w) (n : Nat) : Rel N E s { w with drawn := n } := by
 refine ⟨h.nx, h.lo, h.hi, h.base, h.flr, fun b o hb => ⟨(h.ob b o hb).1, ?_⟩, h.flo, h.dis, h.grp, h.ro⟩
 have := (h.ob b o hb).2
 cases o <;> exact this
theorem Stp.drawn {N : Nat} {E : En} {s : St} {w : World} (h : Rel N E s w) (n : Nat) : Stp N E s w E s { w with drawn := n } :=
 ⟨.refl E, h.drawn n, rfl, rfl, rfl, Nat.le_refl _, fun _ _ _ => rfl, fun b o hb ho => .inr ⟨b, o, hb, ho, rfl⟩⟩
theorem EntRs.ext {E E' : En} (X : Ext E E') : ∀ {l l' : List MapEntry}, EntRs E l l' → EntRs E' l l'
 | _, _, .nil => .nil
 | _, _, .cons e e' _ _ h k => .cons e e' _ _ ⟨h.key, h.val.ext X, h.born⟩ (k.ext X)
theorem TmR.ext {E E' : En} (X : Ext E E') {tm : Tr Value} {tmps : Array Value} (h : TmR E tm tmps) : TmR E' tm tmps := fun t => (h t).ext X
theorem LoopR.ext {E E' : En} (X : Ext E E') {lp : Loop} {n : Nat} {tm : Tr Value} {lp' : Loop} (h : LoopR E lp n tm lp') : LoopR E' lp n tm lp' :=
 ⟨h.state, h.pending, h.fn, h.params, h.assign, h.body, Nat.lt_of_lt_of_le h.lt X.nx, by rw [X.ι _ h.lt]; exact h.defers, h.size, h.tmps.ext X⟩
theorem DfR.ext {E E' : En} (X : Ext E E') {d d' : Deferred} (h : DfR E d d') : DfR E' d d' := by
 cases h with
 | fn f y y' x x' hy hx => exact .fn f y y' x x' (hy.ext X) (hx.ext X)
 | col r hr => rw [← X.ι r hr]; exact .col r (Nat.lt_of_lt_of_le hr X.nx)
theorem DfRs.ext {E E' : En} (X : Ext E E') : ∀ {l l' : List Deferred}, DfRs E l l' → DfRs E' l l'
 | _, _, .nil => .nil
 | _, _, .cons d d' _ _ h k => .cons d d' _ _ (h.ext X) (k.ext X)
theorem DfO.ext {E E' : En} (X : Ext E E') {c c' : Option (List Deferred)} (h : DfO E c c') : DfO E' c c' := by
 cases h with
 | none => exact .none
 | some l l' h => exact .some l l' (h.ext X)
theorem CellsR.ext {E E' : En} (X : Ext E E') {sh : Nat} {cs : List Value} {c : Array Value} (h : CellsR E sh cs c) : CellsR E' sh cs c :=
 fun i v hv => let ⟨v', h1, h2⟩ := h i v hv; ⟨v', h1, h2.ext X⟩
theorem ObR.keep {E E' : En} (X : Ext E E') {b : Nat} {o : Ob} {w w' : World} (h : ObR E b w o) (hb : b < E.nx) (hw : w'.heap[E.ι b]? = w.heap[E.ι b]?) : ObR E' b w' o := by
 cases o with
 | row cs g =>
  obtain ⟨c, t, fr, h1, h2, h3, h4⟩ := h
  exact ⟨c, t, fr, by rw [X.ι b hb, hw]; exact h1, by rw [X.sz b hb]; exact h2, h3, by rw [X.sh b hb]; exact h4.ext X⟩
 | ro cs =>
  obtain ⟨c, t, fr, h1, h4⟩ := h
  exact ⟨c, t, fr, by rw [X.ι b hb, hw]; exact h1, by rw [X.sh b hb]; exact h4.ext X⟩
 | map es clock => obtain ⟨es', h1, h2⟩ := h; exact ⟨es', by rw [X.ι b hb, hw]; exact h1, h2.ext X⟩
 | loop lp n tm => obtain ⟨lp', h1, h2⟩ := h; exact ⟨lp', by rw [X.ι b hb, hw]; exact h1, h2.ext X⟩
 | dfr c => obtain ⟨c', h1, h2⟩ := h; exact ⟨c', by rw [X.ι b hb, hw]; exact h1, h2.ext X⟩
 | dead => trivial
theorem ObR.lt {E : En} {b : Nat} {o : Ob} {w : World} (h : ObR E b w o) (hd : o ≠ .dead) : E.ι b < w.heap.size := by
 have : (w.heap[E.ι b]?).isSome = true := by
  cases o with
  | row => obtain ⟨_, _, _, h, _⟩ := h; rw [h]; rfl
  | ro => obtain ⟨_, _, _, h, _⟩ := h; rw [h]; rfl
  | map => obtain ⟨_, h, _⟩ := h; rw [h]; rfl
  | loop => obtain ⟨_, h, _⟩ := h; rw [h]; rfl
  | dfr => obtain ⟨_, h, _⟩ := h; rw [h]; rfl
  | dead => exact absurd rfl hd
 rcases Nat.lt_or_ge (E.ι b) w.heap.size with h | h
 ·exact h
 ·rw [Array.getElem?_eq_none h] at this; cases this
def En.push (E : En) (a sh sz : Nat) : En :=
 { nx := E.nx + 1, ι := fun b => if b = E.nx then a else E.ι b, sh := fun b => if b = E.nx then sh else E.sh b, sz := fun b => if b = E.nx then sz else E.sz b }
theorem En.push_ext (E : En) (a sh sz : Nat) : Ext E (E.push a sh sz) := by
 refine ⟨Nat.le_succ _, fun b hb => ?_, fun b hb => ?_, fun b hb => ?_⟩ <;> exact if_neg (by omega)
theorem En.push_ι (E : En) (a sh sz : Nat) : (E.push a sh sz).ι E.nx = a := if_pos rfl
theorem En.push_sh (E : En) (a sh sz : Nat) : (E.push a sh sz).sh E.nx = sh := if_pos rfl
theorem En.push_sz (E : En) (a sh sz : Nat) : (E.push a sh sz).sz E.nx = sz := if_pos rfl
theorem setO_some {hp : Tr Ob} {nx : Nat} {gr : Tr (List Nat)} {b : Nat} {o : Ob} {s : St} (h : setO hp nx gr b o = some s) : s = .mk (hp.set o b) nx gr := by
 unfold setO at h
 cases e : hp.set o b with
 | nil => rw [e] at h; cases h
 | node v a b c d => rw [e] at h; cases h; rfl
theorem newO_some {β : Type} {s : St} {o : Ob} {k : Nat → St → Option β} {r : β} (h : newO s o k = some r) :
  s.nx < s.nx + 1 ∧ k s.nx (.mk (s.hp.set o s.nx) (s.nx + 1) s.gr) = some r := by
 obtain ⟨hp, nx, gr⟩ := s
 have h' : cond (Nat.blt nx (Nat.succ nx)) (Tr.casesOn (motive := fun _ => Option β) (hp.set o nx) none fun v a b c d => fN (Nat.succ nx) fun n => k nx (.mk (.node v a b c d) n gr)) none = some r := h
 cases hb : Nat.blt nx (Nat.succ nx) with
 | false => rw [hb] at h'; cases h'
 | true =>
  rw [hb] at h'
  refine ⟨Nat.le_of_ble_eq_true hb, ?_⟩
  show k nx (.mk (hp.set o nx) (nx + 1) gr) = some r
  cases e : hp.set o nx with
  | nil => rw [e] at h'; cases h'
  | node v a b c d => rw [e] at h'; exact (fN_eq (Nat.succ nx) fun n => k nx (.mk (.node v a b c d) n gr)).symm.trans h'
theorem stp_new {N : Nat} {E : En} {s : St} {w w' : World} (h : Rel N E s w) (hn : s.nx < s.nx + 1) {o : Ob} {o' : Obj} {sz : Nat} (hg : o.grp = 0) (hrw : o.rw)
  (hw : w'.heap = w.heap.push o') (hos : w'.os = w.os) (htp : w'.tape = w.tape) (hout : w'.output = w.output)
  (ho : ObR (E.push w.heap.size 0 sz) E.nx w' o) :
  Stp N E s w (E.push w.heap.size 0 sz) (.mk (s.hp.set o s.nx) (s.nx + 1) s.gr) w' := by
 have X := En.push_ext E w.heap.size 0 sz
 have old : ∀ B, B < w.heap.size → w'.heap[B]? = w.heap[B]? := fun B hB => by rw [hw, Array.getElem?_push, if_neg (by omega)]
 have hsz : w'.heap.size = w.heap.size + 1 := by rw [hw]; simp
 have gets : ∀ b, (s.hp.set o s.nx).get b = if b = E.nx then some o else s.hp.get b := fun b => by
  rw [Tr.get_set _ _ _ (by have := h.hi; have := h.nx; omega), h.nx]
 have ι' : ∀ b, b < E.nx → (E.push w.heap.size 0 sz).ι b = E.ι b := X.ι
 refine ⟨X, ⟨by show s.nx + 1 = E.nx + 1; rw [h.nx], Nat.le_trans h.lo (Nat.le_succ _), by show E.nx + 1 ≤ E.nx + 1 + 1; rw [← h.nx]; omega, fun b hb => ?_, by rw [hsz]; exact Nat.le_succ_of_le h.flr, fun b ob hb => ?_, fun b ob hb hr => ?_, fun b ob b' ob' hb hb' hr hd hne he => ?_, fun b ob hb hgr => ?_, fun b ob hb hd hr => ?_⟩, hos, htp, hout, by rw [hsz]; omega, fun B hB _ => old B hB, fun b ob hb hr => ?_⟩
 ·have hb' : b < E.nx := Nat.lt_of_lt_of_le hb h.lo
  rw [X.ι b hb', X.sh b hb']; exact h.base b hb
 ·rw [show (St.mk (s.hp.set o s.nx) (s.nx + 1) s.gr).hp = s.hp.set o s.nx from rfl, gets] at hb
  split at hb
  ·rename_i e; cases hb; subst e; exact ⟨Nat.lt_succ_self _, ho⟩
  ·obtain ⟨h1, h2⟩ := h.ob b ob hb
   refine ⟨Nat.lt_succ_of_lt h1, ?_⟩
   by_cases e : ob = .dead
   ·subst e; trivial
   ·exact h2.keep X h1 (old _ (h2.lt e))
 ·rw [show (St.mk (s.hp.set o s.nx) (s.nx + 1) s.gr).hp = s.hp.set o s.nx from rfl, gets] at hb
  split at hb
  ·rename_i e; subst e; rw [En.push_ι]; exact h.flr
  ·rw [ι' b (h.ob b ob hb).1]; exact h.flo b ob hb hr
 ·rw [show (St.mk (s.hp.set o s.nx) (s.nx + 1) s.gr).hp = s.hp.set o s.nx from rfl, gets] at hb hb'
  split at hb
  ·rename_i e
   subst e
   rw [if_neg (fun e => hne e.symm)] at hb'
   have := (h.ob b' ob' hb').2.lt hd
   rw [En.push_ι, ι' b' (h.ob b' ob' hb').1] at he
   omega
  ·have h1 := (h.ob b ob hb).1
   split at hb'
   ·rename_i e
    subst e
    have := (h.ob b ob hb).2.lt (fun e => by subst e; exact hr)
    rw [En.push_ι, ι' b h1] at he
    omega
   ·have h2 := (h.ob b' ob' hb').1
    rw [ι' b h1, ι' b' h2] at he
    rw [X.sh b h1, X.sh b' h2]
    exact h.dis b ob b' ob' hb hb' hr hd hne he
 ·rw [show (St.mk (s.hp.set o s.nx) (s.nx + 1) s.gr).hp = s.hp.set o s.nx from rfl, gets] at hb
  split at hb
  ·cases hb; exact absurd hg hgr
  ·exact h.grp b ob hb hgr
 ·rw [show (St.mk (s.hp.set o s.nx) (s.nx + 1) s.gr).hp = s.hp.set o s.nx from rfl, gets] at hb
  split at hb
  ·cases hb; exact absurd hrw hr
  ·rw [ι' b (h.ob b ob hb).1]; exact h.ro b ob hb hd hr
 ·rw [show (St.mk (s.hp.set o s.nx) (s.nx + 1) s.gr).hp = s.hp.set o s.nx from rfl, gets] at hb
  split at hb
  ·rename_i e; subst e; rw [En.push_ι]; exact .inl (Nat.le_refl _)
  ·exact .inr ⟨b, ob, hb, hr, (ι' b (h.ob b ob hb).1).symm⟩
end Go.Ev
namespace Go.Proofs.YteldpcbhfbgomaaGreatDoor.Dg
open Go.RowKit
structure View (w : World) (a : Option Addr) (b off n : Nat) (Z : Nat → Int) : Prop where
 at_ : 0 < n → a = some ⟨b, off, none⟩
 cell : ∀ i, i < n → w.cell? ⟨b, off + i, none⟩ = some (.int .u8 (Z i))
 bd : ∀ i, i < n → 0 ≤ Z i ∧ Z i ≤ 255
 len : n ≤ 281474976710656
theorem View.lt {w : World} {a : Option Addr} {b off n : Nat} {Z : Nat → Int} (h : View w a b off n Z) (hn : 0 < n) : b < w.heap.size :=
 World.block_lt_of_cell? _ _ (h.cell 0 hn)
theorem View.of_cells {w w' : World} {a : Option Addr} {b off n : Nat} {Z : Nat → Int} (h : View w a b off n Z) (hc : ∀ p : Addr, p.block < w.heap.size → w'.cell? p = w.cell? p) : View w' a b off n Z :=
 ⟨h.at_, fun i hi => (hc _ (h.lt (by omega))).trans (h.cell i hi), h.bd, h.len⟩
theorem View.drewN {w : World} {a : Option Addr} {b off n : Nat} {Z : Nat → Int} (h : View w a b off n Z) (q : Nat) : View (w.drewN q) a b off n Z :=
 h.of_cells fun p _ => by simp
theorem View.below {w w' : World} {a : Option Addr} {b off n : Nat} {Z : Nat → Int} (h : View w a b off n Z) (hb : Below w.heap.size w w') : View w' a b off n Z :=
 h.of_cells fun _ hp => hb.cell hp
theorem View.congr {w : World} {a : Option Addr} {b off n : Nat} {Z Y : Nat → Int} (h : View w a b off n Z) (e : ∀ i, i < n → Z i = Y i) : View w a b off n Y :=
 ⟨h.at_, fun i hi => by rw [← e i hi]; exact h.cell i hi, fun i hi => by rw [← e i hi]; exact h.bd i hi, h.len⟩
open Go.RowKit
def rot (x n : Nat) : Nat := (x >>> n) ||| ((x <<< (32 - n)) % 4294967296)
theorem rot_lt {x : Nat} (n : Nat) (hx : x < 4294967296) : rot x n < 4294967296 := by
 unfold rot
 refine Nat.or_lt_two_pow (n := 32) ?_ (Nat.mod_lt _ (by decide))
 rw [Nat.shiftRight_eq_div_pow]
 exact Nat.lt_of_le_of_lt (Nat.div_le_self _ _) hx
theorem turn_or (x n : Nat) (hx : x < 4294967296) : bits .or .u32 ((x : Int) / 2 ^ n) ((x : Int) * 2 ^ (32 - n) % 4294967296) = ((rot x n : Nat) : Int) := by
 have e1 : (x : Int) / 2 ^ n = ((x >>> n : Nat) : Int) := by rw [Nat.shiftRight_eq_div_pow]; simp
 have e2 : (x : Int) * 2 ^ (32 - n) % 4294967296 = (((x <<< (32 - n)) % 4294967296 : Nat) : Int) := by rw [Nat.shiftLeft_eq]; simp
 rw [e1, e2]
 refine u32_or_nat _ _ ?_ (Nat.mod_lt _ (by decide))
 rw [Nat.shiftRight_eq_div_pow]
 exact Nat.lt_of_le_of_lt (Nat.div_le_self _ _) hx
theorem turn_or' (x n : Nat) (hx : x < 4294967296) : bits .or .u32 ((x : Int) * 2 ^ (32 - n) % 4294967296) ((x : Int) / 2 ^ n) = ((rot x n : Nat) : Int) := by
 rw [← turn_or x n hx]
 simp only [bits, BitVec.or_comm]
theorem left_count : ∀ n : Nat, n < 32 → 1 ≤ n → bits .and .u64 (IntKind.u64.wrap (-(n : Int))) 31 = ((32 - n : Nat) : Int) := by decide
set_option maxHeartbeats 400000 in
theorem left_any (w : World) (x : Nat) (n : Nat) (h2 : x < 4294967296) (hn : 1 ≤ n) (hm : n ≤ 31) :
  Calls Tryz.prog 111 #[.int .u32 x, .int .i64 (-(n : Int))] w fun e w' => e = .returned (.int .u32 (rot x n)) ∧ w' = w := by
 have hc := left_count n (by omega) hn
 obtain ⟨m, hm'⟩ : ∃ m, m = 32 - n := ⟨_, rfl⟩
 have h3 : Hid (n = 32 - m) := by show n = 32 - m; omega
 have h5 : m + n ≤ 32 := by omega
 have h6 : 32 ≤ m + n := by omega
 rw [← hm'] at hc
 have h4 : m ≤ 31 := by omega
 clear hm'
 go_enter Tryz.func111, Tryz.ntmps111
 go_wp2
 have e1 := turn_or' x n h2
 rw [show 32 - n = m by omega] at e1
 rw [show 32 - m = n by omega, e1]
 go_ret
 exact ⟨rfl, rfl⟩
set_option maxHeartbeats 400000 in
theorem rotR_any (w : World) (x : Nat) (n : Nat) (h2 : x < 4294967296) (hn : 1 ≤ n) (hm : n ≤ 31) :
  Calls Tryz.prog 110 #[.int .u32 x, .int .i64 (n : Int)] w fun e w' => e = .returned (.int .u32 (rot x n)) ∧ w' = w := by
 have c := left_any w x n h2 hn hm
 go_enter Tryz.func110, Tryz.ntmps110
 go_wp2_with (refine c.mono ?_; rintro _ _ ⟨rfl, rfl⟩)
 go_ret
 exact ⟨rfl, rfl⟩
def M : Nat := 4294967296
def be (B : Nat → Nat) (t : Nat) : Nat := ((B (4 * t) <<< 24 ||| B (4 * t + 1) <<< 16) ||| B (4 * t + 2) <<< 8) ||| B (4 * t + 3)
def s0 (x : Nat) : Nat := (rot x 7 ^^^ rot x 18) ^^^ (x >>> 3)
def s1 (x : Nat) : Nat := (rot x 17 ^^^ rot x 19) ^^^ (x >>> 10)
def wnew (a b c d : Nat) : Nat := (((s1 a + b) % M + s0 c) % M + d) % M
def sched (B : Nat → Nat) (t : Nat) : Nat :=
 if t < 16 then be B t else wnew (sched B (t - 2)) (sched B (t - 7)) (sched B (t - 15)) (sched B (t - 16))
termination_by t
decreasing_by all_goals omega
structure W8 where
 a : Nat
 b : Nat
 c : Nat
 d : Nat
 e : Nat
 f : Nat
 g : Nat
 h : Nat
def big1 (e : Nat) : Nat := (rot e 6 ^^^ rot e 11) ^^^ rot e 25
def big0 (a : Nat) : Nat := (rot a 2 ^^^ rot a 13) ^^^ rot a 22
def pick (e f g : Nat) : Nat := (e &&& f) ^^^ ((4294967295 ^^^ e) &&& g)
def most (a b c : Nat) : Nat := ((a &&& b) ^^^ (a &&& c)) ^^^ (b &&& c)
def t1 (s : W8) (k w : Nat) : Nat := ((((s.h + big1 s.e) % M + pick s.e s.f s.g) % M + k) % M + w) % M
def t2 (s : W8) : Nat := (big0 s.a + most s.a s.b s.c) % M
def turn1 (s : W8) (k w : Nat) : W8 := ⟨(t1 s k w + t2 s) % M, s.a, s.b, s.c, (s.d + t1 s k w) % M, s.e, s.f, s.g⟩
def turns (K W : Nat → Nat) (s : W8) : Nat → W8
 | 0 => s
 | t + 1 => turn1 (turns K W s t) (K t) (W t)
def plus (s r : W8) : W8 := ⟨(s.a + r.a) % M, (s.b + r.b) % M, (s.c + r.c) % M, (s.d + r.d) % M, (s.e + r.e) % M, (s.f + r.f) % M, (s.g + r.g) % M, (s.h + r.h) % M⟩
def KL : List Nat := [1116352408, 1899447441, 3049323471, 3921009573, 961987163, 1508970993, 2453635748, 2870763221, 3624381080, 310598401, 607225278, 1426881987, 1925078388, 2162078206, 2614888103, 3248222580, 3835390401, 4022224774, 264347078, 604807628, 770255983, 1249150122, 1555081692, 1996064986, 2554220882, 2821834349, 2952996808, 3210313671, 3336571891, 3584528711, 113926993, 338241895, 666307205, 773529912, 1294757372, 1396182291, 1695183700, 1986661051, 2177026350, 2456956037, 2730485921, 2820302411, 3259730800, 3345764771, 3516065817, 3600352804, 4094571909, 275423344, 430227734, 506948616, 659060556, 883997877, 958139571, 1322822218, 1537002063, 1747873779, 1955562222, 2024104815, 2227730452, 2361852424, 2428436474, 2756734187, 3204031479, 3329325298]
def K (t : Nat) : Nat := KL.getD t 0
def fold1 (s : W8) (B : Nat → Nat) : W8 := plus s (turns K (sched B) s 64)
def H0 : W8 := ⟨1779033703, 3144134277, 1013904242, 2773480762, 1359893119, 2600822924, 528734635, 1541459225⟩
structure Ok8 (s : W8) : Prop where
 a : s.a < 4294967296
 b : s.b < 4294967296
 c : s.c < 4294967296
 d : s.d < 4294967296
 e : s.e < 4294967296
 f : s.f < 4294967296
 g : s.g < 4294967296
 h : s.h < 4294967296
theorem turn1_ok {s : W8} (h : Ok8 s) (k w : Nat) : Ok8 (turn1 s k w) :=
 ⟨Nat.mod_lt _ (by decide), h.a, h.b, h.c, Nat.mod_lt _ (by decide), h.e, h.f, h.g⟩
theorem turns_ok {s : W8} (h : Ok8 s) (K W : Nat → Nat) : ∀ t, Ok8 (turns K W s t)
 | 0 => h
 | t + 1 => turn1_ok (turns_ok h K W t) _ _
theorem plus_ok (s r : W8) : Ok8 (plus s r) :=
 ⟨Nat.mod_lt _ (by decide), Nat.mod_lt _ (by decide), Nat.mod_lt _ (by decide), Nat.mod_lt _ (by decide), Nat.mod_lt _ (by decide), Nat.mod_lt _ (by decide), Nat.mod_lt _ (by decide), Nat.mod_lt _ (by decide)⟩
theorem fold1_ok (s : W8) (B : Nat → Nat) : Ok8 (fold1 s B) := plus_ok _ _
theorem K_lt (t : Nat) (h : t < 64) : K t < 4294967296 := by
 have : ∀ t, t < 64 → K t < 4294967296 := by decide
 exact this t h
theorem be_lt {B : Nat → Nat} (hB : ∀ i, B i < 256) (t : Nat) : be B t < 4294967296 := by
 unfold be
 have sh : ∀ x n : Nat, x < 256 → n ≤ 24 → x <<< n < 2 ^ 32 := by
  intro x n hx hn
  rw [Nat.shiftLeft_eq]
  calc x * 2 ^ n < 2 ^ 8 * 2 ^ n := Nat.mul_lt_mul_of_pos_right (by simpa using hx) (Nat.two_pow_pos n)
   _ = 2 ^ (8 + n) := by rw [Nat.pow_add]
   _ ≤ 2 ^ 32 := Nat.pow_le_pow_right (by decide) (by omega)
 have e : (4294967296 : Nat) = 2 ^ 32 := by decide
 rw [e]
 refine Nat.or_lt_two_pow (Nat.or_lt_two_pow (Nat.or_lt_two_pow (sh _ _ (hB _) (by decide)) (sh _ _ (hB _) (by decide))) (sh _ _ (hB _) (by decide))) ?_
 exact Nat.lt_of_lt_of_le (hB _) (by decide)
theorem sched_lt {B : Nat → Nat} (hB : ∀ i, B i < 256) (t : Nat) : sched B t < 4294967296 := by
 unfold sched
 split
 ·exact be_lt hB t
 ·exact Nat.mod_lt _ (by decide)
theorem sched_low (B : Nat → Nat) {t : Nat} (h : t < 16) : sched B t = be B t := by
 rw [sched, if_pos h]
theorem sched_high (B : Nat → Nat) {t : Nat} (h : 16 ≤ t) : sched B t = wnew (sched B (t - 2)) (sched B (t - 7)) (sched B (t - 15)) (sched B (t - 16)) := by
 rw [sched, if_neg (by omega)]
open Go.RowKit
set_option maxHeartbeats 400000 in
theorem turned_any (w : World) (x : Nat) (n : Nat) (h2 : x < 4294967296) (hn : 1 ≤ n) (hm : n ≤ 31) :
  Calls Tryz.prog 105 #[.int .u32 x, .int .i64 (n : Int)] w fun e w' => e = .returned (.int .u32 (rot x n)) ∧ ∃ q, w' = w.drewN q := by
 go_enter Tryz.func105, Tryz.ntmps105
 go_wp2
 go_quiet (fail)
 go_wp2
 rw [turn_or x n h2]
 go_ret
 exact ⟨rfl, nq, rfl⟩
end Go.Proofs.YteldpcbhfbgomaaGreatDoor.Dg
