import Derived.Test.YtglilbadldocoaaGreatDoorG2zz
import Derived.Below
import Derived.Test.YtglilbadldocoaaGreatDoorH7zz
namespace Go.Ev
open Go Go.RowKit
section
variable {P : Program} {N : Nat}
def HookOk (N : Nat) (P : Program) (hook : FuncId → Option (List Value → St → Rv)) : Prop :=
 ∀ {f : FuncId} {g : List Value → St → Rv}, hook f = some g → ∀ {args args' : List Value} {s s' : St} {v : Value} {E : En} {w : World}, Rel N E s w → VRs E args args' → g args s = .ok v s' →
  Calls P f ⟨args'⟩ w fun e w' => ∃ E' v', e = .returned v' ∧ VR E' v v' ∧ Stp N E s w E' s' w'
theorem run_ok (hD : ∀ rec, RecOk N P rec → DrawOk N P rec) {hook : FuncId → Option (List Value → St → Rv)} (hH : HookOk N P hook) : ∀ n, RecOk N P (run P hook n) := by
 intro n
 induction n with
 | zero => exact ⟨fun _ _ hx => (by cases hx), fun _ _ hx => (by cases hx), fun _ _ _ hx => (by cases hx)⟩
 | succ n ih =>
  refine ⟨fun {f args args' s s' v E w} h ha hx cs => ?_, fun {f args args' s s' v E w} h ha hx c cs hc => ?_, fun {l args args' s s' v E w} h ha hl hx => ?_⟩
  ·have hx' : (match hook f with
    | some g => orElse (g args s) (enter P (run P hook n) f args) s
    | none => enter P (run P hook n) f args s) = .ok v s' := hx
   split at hx'
   ·rename_i g hg
    unfold orElse at hx'
    split at hx'
    case h_2 => exact enter_ok ih (hD _ ih) h ha hx' .normal cs (.inl rfl)
    rename_i v2 s2 hg2
    cases hx'
    replace hx' := hg2
    obtain ⟨e, w', fr, ⟨E', v', rfl, q1, q2⟩, q3, q4, q5, q6, q7, fn, q8, q9⟩ := hH hg h ha hx' cs
    exact ⟨E', w', v', fr, q2, q1, q3, q4, q7, q5, q6, fn, by rw [← q4]; exact q8, q9⟩
   ·exact enter_ok ih (hD _ ih) h ha hx' .normal cs (.inl rfl)
  ·exact enter_ok ih (hD _ ih) h ha (show enter P (run P hook n) f args s = .ok v s' from hx) .deferred (c :: cs) (.inr ⟨rfl, c, cs, rfl, hc⟩)
  ·exact round_ok ih (hD _ ih) h ha hl (show round P (run P hook n) l args s = .ok v s' from hx)
theorem eval_calls (hD : ∀ rec, RecOk N P rec → DrawOk N P rec) {hook : FuncId → Option (List Value → St → Rv)} (hH : HookOk N P hook) {n : Nat} {f : FuncId} {args args' : List Value} {s s' : St} {v : Value} {E : En} {w : World} (h : Rel N E s w) (ha : VRs E args args')
  (hx : run P hook n (.call f args) s = .ok v s') : Calls P f ⟨args'⟩ w fun e w' => ∃ E' v', e = .returned v' ∧ VR E' v v' ∧ Stp N E s w E' s' w' := by
 intro cs
 obtain ⟨E', w', v', fr, z1, z2, z3, z4, z5, z6, z7, fn, z8, z9⟩ := (run_ok hD hH n).call h ha hx cs
 exact ⟨.returned v', w', fr, ⟨E', v', rfl, z2, z1⟩, z3, z4, z6, z7, z5, fn, by rw [z4]; exact z8, z9⟩
theorem Stp.below {E E' : En} {s s' : St} {w w' : World} (S : Stp N E s w E' s' w') (h : Rel N E s w) : Below N w w' :=
 ⟨S.os, S.tape, S.output, S.size, fun k hk => S.kept k (Nat.lt_of_lt_of_le hk h.flr) fun b o hb ho e => by have := h.flo b o hb ho; omega⟩
def start : En := { nx := 1000, ι := fun b => b, sh := fun _ => 0, sz := fun _ => 0 }
theorem rel_start {w : World} {hp : Tr Ob} (h : ∀ b o, hp.get b = some o → b < 1000 ∧ ∃ cs c t fr, o = .ro cs ∧ w.heap[b]? = some (.cells c t fr) ∧ ∀ (i : Nat) (v : Value), cs[i]? = some v → c[i]? = some v ∧ plain 1 v = true) : Rel w.heap.size start (.mk hp 1000 .nil) w := by
 refine ⟨rfl, Nat.le_refl _, (by show 1000 ≤ 1000 + 1; decide), fun b _ => ⟨rfl, rfl⟩, Nat.le_refl _, fun b o hb => ?_, fun b o hb ho => ?_, fun b o b' o' hb _ ho => ?_, fun b o hb hg => ?_, fun b o hb hd hr => ?_⟩
 ·obtain ⟨h1, cs, c, t, fr, rfl, h2, h3⟩ := h b o hb
  exact ⟨h1, c, t, fr, h2, fun i v hv => ⟨v, by show c[0 + i]? = some v; rw [Nat.zero_add]; exact (h3 i v hv).1, plain_VR _ 1 v (h3 i v hv).2⟩⟩
 ·obtain ⟨_, cs, c, t, fr, rfl, _⟩ := h b o hb; exact ho.elim
 ·obtain ⟨_, cs, c, t, fr, rfl, _⟩ := h b o hb; exact ho.elim
 ·obtain ⟨_, cs, c, t, fr, rfl, _⟩ := h b o hb; exact absurd rfl hg
 ·obtain ⟨_, cs, c, t, fr, rfl, h2, _⟩ := h b o hb
  exact ObR.lt (E := start) (b := b) (o := .ro []) (w := w) ⟨c, t, fr, h2, fun i v hv => by simp at hv⟩ (fun e => by cases e)
end
end Go.Ev
namespace Go.Ev
open Go Go.RowKit
def tables (tabs : List (Nat × List Value)) : Tr Ob := tabs.foldr (fun p t => t.set (.ro p.2) p.1) .nil
theorem tables_get : ∀ (tabs : List (Nat × List Value)), (∀ p ∈ tabs, p.1 < 1000) → ∀ b o, (tables tabs).get b = some o → ∃ p ∈ tabs, b = p.1 ∧ o = .ro p.2
 | [], _, b, o, h => by rw [show tables [] = .nil from rfl, Tr.get_nil] at h; cases h
 | p :: tabs, hlt, b, o, h => by
  have h' : ((tables tabs).set (.ro p.2) p.1).get b = some o := h
  have := hlt p List.mem_cons_self
  rw [Tr.get_set _ _ _ (by omega)] at h'
  split at h'
  ·rename_i e
   cases h'
   exact ⟨p, List.mem_cons_self, e, rfl⟩
  ·obtain ⟨q, h1, h2⟩ := tables_get tabs (fun q hq => hlt q (List.mem_cons_of_mem _ hq)) b o h'
   exact ⟨q, List.mem_cons_of_mem _ h1, h2⟩
def isT (r : Rv) : Bool := match r with
 | .ok (.bool true) _ => true
 | _ => false
theorem closed {P : Program} {hook : FuncId → Option (List Value → St → Rv)} (hm : P.follows .mixedOrders = true) {f : FuncId} {n : Nat} {tabs : List (Nat × List Value)} {W : World} (hH : HookOk W.heap.size P hook)
  (ht : ∀ p ∈ tabs, p.1 < 1000 ∧ ∃ c t fr, W.heap[p.1]? = some (.cells c t fr) ∧ ∀ (i : Nat) (v : Value), p.2[i]? = some v → c[i]? = some v ∧ plain 1 v = true)
  (hx : isT (run P hook n (.call f []) (.mk (tables tabs) 1000 .nil)) = true) :
  Calls P f #[] W fun e W' => e = .returned (.bool true) ∧ Below W.heap.size W W' := by
 have hr := rel_start (w := W) (hp := tables tabs) fun b o hb => by
  obtain ⟨p, h1, rfl, rfl⟩ := tables_get tabs (fun p hp => (ht p hp).1) b o hb
  obtain ⟨h2, c, t, fr, h3, h4⟩ := ht p h1
  exact ⟨h2, p.2, c, t, fr, rfl, h3, h4⟩
 cases hv : run P hook n (.call f []) (.mk (tables tabs) 1000 .nil) with
 | no => rw [hv] at hx; cases hx
 | ok v s' =>
  rw [hv] at hx
  have e : v = .bool true := by
   unfold isT at hx
   split at hx
   ·rename_i h; cases h; rfl
   ·cases hx
  subst e
  refine (eval_calls (fun rec R => draw_ok hm R) hH hr .nil hv).mono fun e W' ⟨E', v', h1, h2, h3⟩ => ?_
  rw [h2.bool_inv] at h1
  exact ⟨h1, h3.below hr⟩
end Go.Ev
namespace Go.Ev
open Go Go.RowKit
def eqM : List MapEntry → List MapEntry → Bool
 | [], [] => true
 | ⟨k, v, b⟩ :: xs, ⟨k', v', b'⟩ :: ys => cond (eqV 5 k k' && eqV 5 v v' && Nat.beq b b') (eqM xs ys) false
 | _, _ => false
def eqOb (x y : Ob) : Bool := match x, y with
 | .row a g, .row b h => eqL (eqV 5) a b && Nat.beq g h
 | .ro a, .ro b => eqL (eqV 5) a b
 | .map a c, .map b d => eqM a b && Nat.beq c d
 | _, _ => false
def layT {α : Type} : List (Nat × α) → Tr α → Tr α
 | [], t => t
 | (k, x) :: l, t => layT l (t.set x k)
def grpN (o : Ob) : Nat := match o with
 | .row _ g => g
 | _ => 0
def memN (b : Nat) : List Nat → Bool
 | [] => false
 | m :: ms => cond (Nat.beq m b) true (memN b ms)
def inGroup (g : Tr (List Nat)) (b : Nat) (o : Ob) : Bool := cond (Nat.beq (grpN o) 0) true (memN b (membersOf (g.get (grpN o))))
def getIs (hp : Tr Ob) (b : Nat) (o : Ob) : Bool := match hp.get b with
 | some x => eqOb o x
 | none => false
def subL (hp : Tr Ob) (g : Tr (List Nat)) : List (Nat × Ob) → Bool
 | [] => true
 | (b, o) :: l => cond (Nat.blt b 4611686018427387905 && getIs hp b o && inGroup g b o) (subL hp g l) false
structure Tl where
 bl : List (Nat × Ob)
 nx : Nat
 gr : List (Nat × List Nat)
def Tl.st (t : Tl) : St := .mk (layT t.bl .nil) t.nx (layT t.gr .nil)
def fits (t : Tl) (s : St) : Bool := match s with
 | .mk hp nx _ => Nat.beq nx t.nx && subL hp (layT t.gr .nil) t.bl
structure Ck where
 f : FuncId
 args : List Value
 pre : Tl
 v : Value
 post : Tl
def isRv (v : Value) (t : Tl) (r : Rv) : Bool := match r with
 | .ok u s => eqV 5 u v && fits t s
 | .no => false
def Ck.ok (c : Ck) (P : Program) (hook : FuncId → Option (List Value → St → Rv)) (n : Nat) : Bool := isRv c.v c.post (run P hook n (.call c.f c.args) c.pre.st)
end Go.Ev
namespace Go.Ev
open Go
def killB (hp : Tr Ob) (k : Nat) : Tr Ob := match hp.get k with
 | some _ => hp.set .dead k
 | none => hp
def killAll : List Nat → Tr Ob → Tr Ob
 | [], hp => hp
 | k :: l, hp => killAll l (killB hp k)
theorem killB_get (hp : Tr Ob) (k m : Nat) : (killB hp k).get m = if m = k ∧ (hp.get m).isSome then some .dead else hp.get m := by
 unfold killB
 cases hk : hp.get k with
 | none =>
  simp only
  split
  ·rename_i h; obtain ⟨rfl, h⟩ := h; rw [hk] at h; cases h
  ·rfl
 | some o =>
  simp only
  rw [Tr.get_set _ _ _ (Nat.lt_succ_self _)]
  by_cases e : m = k
  ·subst e; rw [if_pos rfl, if_pos ⟨rfl, by rw [hk]; rfl⟩]
  ·rw [if_neg e, if_neg fun h => e h.1]
theorem killAll_get : ∀ (l : List Nat) (hp : Tr Ob) (m : Nat), (killAll l hp).get m = if m ∈ l ∧ (hp.get m).isSome then some .dead else hp.get m
 | [], hp, m => by rw [if_neg fun h => List.not_mem_nil h.1]; rfl
 | k :: l, hp, m => by
  show (killAll l (killB hp k)).get m = _
  rw [killAll_get l (killB hp k) m]
  by_cases hs : (hp.get m).isSome = true
  ·by_cases e : m = k
   ·have e1 : (killB hp k).get m = some .dead := by rw [killB_get, if_pos ⟨e, hs⟩]
    rw [e1, if_pos (show m ∈ k :: l ∧ (hp.get m).isSome = true from ⟨by rw [e]; exact List.mem_cons_self, hs⟩)]
    split <;> rfl
   ·have e1 : (killB hp k).get m = hp.get m := by rw [killB_get, if_neg fun h => e h.1]
    rw [e1]
    by_cases hm : m ∈ l
    ·rw [if_pos ⟨hm, hs⟩, if_pos (show m ∈ k :: l ∧ (hp.get m).isSome = true from ⟨List.mem_cons_of_mem _ hm, hs⟩)]
    ·rw [if_neg (fun h => hm h.1), if_neg (show ¬ (m ∈ k :: l ∧ (hp.get m).isSome = true) from fun h => (List.mem_cons.1 h.1).elim e hm)]
  ·have e1 : (killB hp k).get m = hp.get m := by rw [killB_get, if_neg fun h => hs h.2]
   rw [e1, if_neg (fun h => hs h.2), if_neg (show ¬ (m ∈ k :: l ∧ (hp.get m).isSome = true) from fun h => hs h.2)]
theorem stp_take {N : Nat} {E : En} {s : St} {w w' : World} (h : Rel N E s w) {b : Nat} {cs : List Value} {g A sh sz : Nat} {l : List Nat} (hb : s.hp.get b = some (.row cs g)) (hA : A = E.ι b ∨ A = w.heap.size) (hl : b ∈ l) (hm : g ≠ 0 → ∀ ms, s.gr.get g = some ms → ∀ m ∈ ms, m ∈ l) {o : Ob} (hg : o.grp = s.nx) (hgn : s.gr.get s.nx = none) (hrw : o.rw)
  (hk : ∀ B, B < w.heap.size → B ≠ E.ι b → w'.heap[B]? = w.heap[B]?) (hsz : w.heap.size ≤ w'.heap.size) (hos : w'.os = w.os) (htp : w'.tape = w.tape) (hout : w'.output = w.output) (ho : ObR (E.push A sh sz) E.nx w' o) :
  Stp N E s w (E.push A sh sz) (.mk ((killAll l s.hp).set o s.nx) (s.nx + 1) (s.gr.set [s.nx] s.nx)) w' := by
 have X := En.push_ext E A sh sz
 have gets : ∀ k, ((killAll l s.hp).set o s.nx).get k = if k = E.nx then some o else if k ∈ l ∧ (s.hp.get k).isSome then some .dead else s.hp.get k := fun k => by
  rw [Tr.get_set _ _ _ (Nat.lt_succ_self _), h.nx, killAll_get]
 have live : ∀ k q, ((killAll l s.hp).set o s.nx).get k = some q → k ≠ E.nx → q ≠ .dead → s.hp.get k = some q ∧ k ∉ l := fun k q hq hne hd => by
  rw [gets, if_neg hne] at hq
  split at hq
  ·cases hq; exact absurd rfl hd
  ·rename_i hn
   exact ⟨hq, fun hk => hn ⟨hk, by rw [hq]; rfl⟩⟩
 have away : ∀ k q, s.hp.get k = some q → k ∉ l → q ≠ .dead → E.ι k ≠ E.ι b := fun k q hq hkl hd e => by
  obtain ⟨h1, h2, _⟩ := h.dis b _ k q hb hq trivial hd (fun e => hkl (e ▸ hl)) e.symm
  obtain ⟨ms, h3, h4⟩ := h.grp k q hq (by rw [h2]; exact h1)
  rw [h2] at h3
  exact hkl (hm h1 ms h3 k h4)
 have hbE := (h.ob b _ hb).1
 have hιb : E.ι b < w.heap.size := (h.ob b _ hb).2.lt (fun e => by cases e)
 have notA : ∀ k q, s.hp.get k = some q → k ∉ l → q ≠ .dead → E.ι k ≠ A := fun k q hq hkl hd e => by
  rcases hA with rfl | rfl
  ·exact away k q hq hkl hd e
  ·have := (h.ob k q hq).2.lt hd; omega
 refine ⟨X, ⟨by show s.nx + 1 = E.nx + 1; rw [h.nx], Nat.le_trans h.lo (Nat.le_succ _), by show E.nx + 1 ≤ E.nx + 1 + 1; omega, fun k hk' => ?_, Nat.le_trans h.flr hsz, fun k q hq => ?_, fun k q hq hr => ?_, fun k q k' q' hq hq' hr hd hne he => ?_, fun k q hq hgr => ?_, fun k q hq hd hr => ?_⟩, hos, htp, hout, hsz, fun B hB hn => hk B hB fun e => hn b _ hb trivial e.symm, fun k q hq hr => ?_⟩
 ·have hb' : k < E.nx := Nat.lt_of_lt_of_le hk' h.lo
  rw [X.ι k hb', X.sh k hb']; exact h.base k hk'
 ·have hq : ((killAll l s.hp).set o s.nx).get k = some q := hq
  by_cases e : k = E.nx
  ·subst e
   rw [gets, if_pos rfl] at hq
   cases hq
   exact ⟨Nat.lt_succ_self _, ho⟩
  ·by_cases hd : q = .dead
   ·subst hd
    rw [gets, if_neg e] at hq
    refine ⟨?_, trivial⟩
    split at hq
    ·rename_i hh
     obtain ⟨q0, hq0⟩ := Option.isSome_iff_exists.1 hh.2
     exact Nat.lt_succ_of_lt (h.ob k q0 hq0).1
    ·exact Nat.lt_succ_of_lt (h.ob k _ hq).1
   ·obtain ⟨h1, h2⟩ := live k q hq e hd
    obtain ⟨h3, h4⟩ := h.ob k q h1
    exact ⟨Nat.lt_succ_of_lt h3, h4.keep X h3 (hk _ (h4.lt hd) (away k q h1 h2 hd))⟩
 ·have hq : ((killAll l s.hp).set o s.nx).get k = some q := hq
  by_cases e : k = E.nx
  ·subst e
   rw [En.push_ι]
   rcases hA with rfl | rfl
   ·exact h.flo b _ hb trivial
   ·exact h.flr
  ·obtain ⟨h1, h2⟩ := live k q hq e (fun e => by subst e; exact hr)
   rw [X.ι k (h.ob k q h1).1]; exact h.flo k q h1 hr
 ·have hq : ((killAll l s.hp).set o s.nx).get k = some q := hq
  have hq' : ((killAll l s.hp).set o s.nx).get k' = some q' := hq'
  have hqd : q ≠ .dead := fun e => by subst e; exact hr
  by_cases e : k = E.nx
  ·subst e
   obtain ⟨h1, h2⟩ := live k' q' hq' (fun e => hne e.symm) hd
   rw [En.push_ι, X.ι k' (h.ob k' q' h1).1] at he
   exact absurd he.symm (notA k' q' h1 h2 hd)
  ·obtain ⟨h1, h2⟩ := live k q hq e hqd
   by_cases e' : k' = E.nx
   ·subst e'
    rw [En.push_ι, X.ι k (h.ob k q h1).1] at he
    exact absurd he (notA k q h1 h2 hqd)
   ·obtain ⟨h3, h4⟩ := live k' q' hq' e' hd
    rw [X.ι k (h.ob k q h1).1, X.ι k' (h.ob k' q' h3).1] at he
    rw [X.sh k (h.ob k q h1).1, X.sh k' (h.ob k' q' h3).1]
    exact h.dis k q k' q' h1 h3 hr hd hne he
 ·have hq : ((killAll l s.hp).set o s.nx).get k = some q := hq
  by_cases e : k = E.nx
  ·subst e
   rw [gets, if_pos rfl] at hq
   cases hq
   refine ⟨[s.nx], ?_, by rw [h.nx]; exact List.mem_singleton.2 rfl⟩
   show (s.gr.set [s.nx] s.nx).get _ = _
   rw [hg, Tr.get_set _ _ _ (Nat.lt_succ_self _), if_pos rfl]
  ·obtain ⟨h1, _⟩ := live k q hq e (fun e => by subst e; exact hgr rfl)
   obtain ⟨ms, h2, h3⟩ := h.grp k q h1 hgr
   refine ⟨ms, ?_, h3⟩
   show (s.gr.set [s.nx] s.nx).get _ = _
   rw [Tr.get_set _ _ _ (Nat.lt_succ_self _), if_neg fun e => by rw [e, hgn] at h2; cases h2]
   exact h2
 ·have hq : ((killAll l s.hp).set o s.nx).get k = some q := hq
  by_cases e : k = E.nx
  ·subst e
   rw [gets, if_pos rfl] at hq
   cases hq
   exact absurd hrw hr
  ·obtain ⟨h1, _⟩ := live k q hq e hd
   rw [X.ι k (h.ob k q h1).1]; exact h.ro k q h1 hd hr
 ·have hq : ((killAll l s.hp).set o s.nx).get k = some q := hq
  by_cases e : k = E.nx
  ·subst e
   rw [En.push_ι]
   rcases hA with rfl | rfl
   ·exact .inr ⟨b, _, hb, trivial, rfl⟩
   ·exact .inl (Nat.le_refl _)
  ·obtain ⟨h1, _⟩ := live k q hq e (fun e => by subst e; exact hr)
   exact .inr ⟨k, q, h1, hr, (X.ι k (h.ob k q h1).1).symm⟩
end Go.Ev
