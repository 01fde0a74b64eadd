import Derived.Test.YtgglbjnfbfpiiaaGreatDoorG4zz
/-
  The evaluator: a long way in pieces. A state told by its blocks; a call that was reckoned once.
-/
namespace Go.Ev
open Go Go.RowKit
def eqM : List MapEntry → List MapEntry → Bool
  | [], [] => true
  | ⟨k, v, b⟩ :: xs, ⟨k', v', b'⟩ :: ys => cond (eqV 5 k k' && eqV 5 v v' && Nat.beq b b') (eqM xs ys) false
  | _, _ => false
theorem eqM_eq : ∀ {x y : List MapEntry}, eqM x y = true → x = y
  | [], [], _ => rfl
  | [], _ :: _, h => by cases h
  | _ :: _, [], h => by cases h
  | ⟨k, v, b⟩ :: xs, ⟨k', v', b'⟩ :: ys, h => by
    have h' : cond (eqV 5 k k' && eqV 5 v v' && Nat.beq b b') (eqM xs ys) false = true := h
    cases e : (eqV 5 k k' && eqV 5 v v' && Nat.beq b b') with
    | false => rw [e] at h'; cases h'
    | true =>
      rw [e] at h'
      obtain ⟨e1, e3⟩ := Bool.and_eq_true_iff.1 e
      obtain ⟨e1, e2⟩ := Bool.and_eq_true_iff.1 e1
      rw [eqV_eq 5 _ _ e1, eqV_eq 5 _ _ e2, Nat.eq_of_beq_eq_true e3, eqM_eq h']
def eqOb (x y : Ob) : Bool := match x, y with
  | .row a g, .row b h => eqL (eqV 5) a b && Nat.beq g h
  | .ro a, .ro b => eqL (eqV 5) a b
  | .map a c, .map b d => eqM a b && Nat.beq c d
  | _, _ => false
theorem eqOb_eq {x y : Ob} (h : eqOb x y = true) : x = y := by
  unfold eqOb at h
  split at h
  · obtain ⟨h1, h2⟩ := Bool.and_eq_true_iff.1 h
    rw [eqL_eq (eqV_eq 5) h1, Nat.eq_of_beq_eq_true h2]
  · rw [eqL_eq (eqV_eq 5) h]
  · obtain ⟨h1, h2⟩ := Bool.and_eq_true_iff.1 h
    rw [eqM_eq h1, Nat.eq_of_beq_eq_true h2]
  · cases h
/-- A state, told by its blocks and its groups. -/
def layT {α : Type} : List (Nat × α) → Tr α → Tr α
  | [], t => t
  | (k, x) :: l, t => layT l (t.set x k)
theorem layT_get {α : Type} : ∀ (l : List (Nat × α)) (t : Tr α) (b : Nat) (o : α), (∀ p ∈ l, p.1 < p.1 + 1) → (layT l t).get b = some o → (b, o) ∈ l ∨ t.get b = some o
  | [], t, b, o, _, h => .inr h
  | (k, x) :: l, t, b, o, hk, h => by
    have h0 := hk (k, x) List.mem_cons_self
    rcases layT_get l (t.set x k) b o (fun p hp => hk p (List.mem_cons_of_mem _ hp)) h with h1 | h1
    · exact .inl (List.mem_cons_of_mem _ h1)
    · rw [Tr.get_set _ _ _ (by have h0' : k < k + 1 := h0; omega)] at h1
      split at h1
      · rename_i e
        cases h1
        rw [e]
        exact .inl List.mem_cons_self
      · exact .inr h1
def grpN (o : Ob) : Nat := match o with
  | .row _ g => g
  | _ => 0
def memN (b : Nat) : List Nat → Bool
  | [] => false
  | m :: ms => cond (Nat.beq m b) true (memN b ms)
theorem memN_mem {b : Nat} : ∀ {l : List Nat}, memN b l = true → b ∈ l
  | [], h => by cases h
  | m :: ms, h => by
    have h' : cond (Nat.beq m b) true (memN b ms) = true := h
    cases e : Nat.beq m b with
    | true => rw [Nat.eq_of_beq_eq_true e]; exact List.mem_cons_self
    | false => rw [e] at h'; exact List.mem_cons_of_mem _ (memN_mem h')
def inGroup (g : Tr (List Nat)) (b : Nat) (o : Ob) : Bool := cond (Nat.beq (grpN o) 0) true (memN b (membersOf (g.get (grpN o))))
def getIs (hp : Tr Ob) (b : Nat) (o : Ob) : Bool := match hp.get b with
  | some x => eqOb o x
  | none => false
/-- All these blocks are there. -/
def subL (hp : Tr Ob) (g : Tr (List Nat)) : List (Nat × Ob) → Bool
  | [] => true
  | (b, o) :: l => cond (Nat.blt b 4611686018427387905 && getIs hp b o && inGroup g b o) (subL hp g l) false
theorem subL_mem {hp : Tr Ob} {g : Tr (List Nat)} : ∀ {l : List (Nat × Ob)}, subL hp g l = true → ∀ b o, (b, o) ∈ l → b < 4611686018427387905 ∧ hp.get b = some o ∧ inGroup g b o = true
  | [], _, b, o, h => by cases h
  | (b', o') :: l, h, b, o, hm => by
    have h' : cond (Nat.blt b' 4611686018427387905 && getIs hp b' o' && inGroup g b' o') (subL hp g l) false = true := h
    cases e : (Nat.blt b' 4611686018427387905 && getIs hp b' o' && inGroup g b' o') with
    | false => rw [e] at h'; cases h'
    | true =>
      rw [e] at h'
      rcases List.mem_cons.1 hm with e1 | hm
      · cases e1
        obtain ⟨e1, e3⟩ := Bool.and_eq_true_iff.1 e
        obtain ⟨e1, e2⟩ := Bool.and_eq_true_iff.1 e1
        refine ⟨Nat.le_of_ble_eq_true e1, ?_, e3⟩
        unfold getIs at e2
        split at e2
        · rename_i x hx
          rw [hx, eqOb_eq e2]
        · cases e2
      · exact subL_mem h' b o hm
/-- A state that is told. -/
structure Tl where
  bl : List (Nat × Ob)
  nx : Nat
  gr : List (Nat × List Nat)
def Tl.st (t : Tl) : St := .mk (layT t.bl .nil) t.nx (layT t.gr .nil)
def fits (t : Tl) (s : St) : Bool := match s with
  | .mk hp nx _ => Nat.beq nx t.nx && subL hp (layT t.gr .nil) t.bl
theorem fits_get {t : Tl} {s : St} (h : fits t s = true) : s.nx = t.nx ∧ ∀ b o, t.st.hp.get b = some o → s.hp.get b = some o ∧ inGroup t.st.gr b o = true := by
  obtain ⟨hp, nx, gr⟩ := s
  obtain ⟨h1, h2⟩ := Bool.and_eq_true_iff.1 (show (Nat.beq nx t.nx && subL hp (layT t.gr .nil) t.bl) = true from h)
  refine ⟨Nat.eq_of_beq_eq_true h1, fun b o hb => ?_⟩
  have hm := subL_mem h2
  rcases layT_get t.bl .nil b o (fun p hp => Nat.lt_succ_self _) hb with h3 | h3
  · exact (hm b o h3).2
  · rw [Tr.get_nil] at h3; cases h3
theorem fits_rel {N : Nat} {E : En} {t : Tl} {s : St} {w : World} (h : fits t s = true) (r : Rel N E s w) : Rel N E t.st w := by
  obtain ⟨h1, h2⟩ := fits_get h
  refine ⟨by show t.nx = E.nx; rw [← h1]; exact r.nx, r.lo, r.hi, r.base, r.flr, fun b o hb => r.ob b o (h2 b o hb).1, fun b o hb => r.flo b o (h2 b o hb).1, fun b o b' o' hb hb' => r.dis b o b' o' (h2 b o hb).1 (h2 b' o' hb').1, fun b o hb hg => ?_, fun b o hb => r.ro b o (h2 b o hb).1⟩
  have h3 := (h2 b o hb).2
  have hgn : grpN o = o.grp := by cases o <;> rfl
  unfold inGroup at h3
  rw [hgn] at h3
  cases e : Nat.beq o.grp 0 with
  | true => exact absurd (Nat.eq_of_beq_eq_true e) hg
  | false =>
    rw [e] at h3
    have h4 : b ∈ membersOf (t.st.gr.get o.grp) := memN_mem h3
    cases hq : t.st.gr.get o.grp with
    | none => rw [hq] at h4; cases h4
    | some ms => rw [hq] at h4; exact ⟨ms, rfl, h4⟩
/-- A step out of a state that is told, into another. -/
theorem fits_stp {N : Nat} {E E' : En} {t t' : Tl} {s s' : St} {w w' : World} (h : fits t s = true) (h' : fits t' s' = true) (S : Stp N E t.st w E' s' w') : Stp N E s w E' t'.st w' := by
  obtain ⟨h1, h2⟩ := fits_get h
  obtain ⟨h3, h4⟩ := fits_get h'
  refine ⟨S.ext, fits_rel h' S.rel, S.os, S.tape, S.output, S.size, fun B hB hn => S.kept B hB fun b o hb ho => hn b o (h2 b o hb).1 ho, fun b o hb ho => ?_⟩
  rcases S.prov b o (h4 b o hb).1 ho with k | ⟨b0, o0, k1, k2, k3⟩
  · exact .inl k
  · exact .inr ⟨b0, o0, (h2 b0 o0 k1).1, k2, k3⟩
/-- A call that was reckoned. -/
structure Ck where
  f : FuncId
  args : List Value
  pre : Tl
  v : Value
  post : Tl
def isRv (v : Value) (t : Tl) (r : Rv) : Bool := match r with
  | .ok u s => eqV 5 u v && fits t s
  | .no => false
/-- What was reckoned. -/
def Ck.ok (c : Ck) (P : Program) (hook : FuncId → Option (List Value → St → Rv)) (n : Nat) : Bool := isRv c.v c.post (run P hook n (.call c.f c.args) c.pre.st)
def tryCk (args : List Value) (s : St) : List Ck → Rv
  | [] => .no
  | c :: cs => cond (eqL (eqV 5) args c.args && fits c.pre s) (.ok c.v c.post.st) (tryCk args s cs)
def ofF (f : FuncId) : List Ck → List Ck
  | [] => []
  | c :: cs => cond (Nat.beq c.f f) (c :: ofF f cs) (ofF f cs)
def ckHook (cs : List Ck) (base : FuncId → Option (List Value → St → Rv)) (f : FuncId) : Option (List Value → St → Rv) := match ofF f cs with
  | [] => base f
  | l => some fun args s => tryCk args s l
theorem ofF_mem {f : FuncId} {c : Ck} : ∀ {cs : List Ck}, c ∈ ofF f cs → c ∈ cs ∧ c.f = f
  | [], h => by cases h
  | d :: cs, h => by
    have h' : c ∈ cond (Nat.beq d.f f) (d :: ofF f cs) (ofF f cs) := h
    cases e : Nat.beq d.f f with
    | false => rw [e] at h'; exact ⟨List.mem_cons_of_mem _ (ofF_mem h').1, (ofF_mem h').2⟩
    | true =>
      rw [e] at h'
      rcases List.mem_cons.1 h' with rfl | h'
      · exact ⟨List.mem_cons_self, Nat.eq_of_beq_eq_true e⟩
      · exact ⟨List.mem_cons_of_mem _ (ofF_mem h').1, (ofF_mem h').2⟩
theorem tryCk_some {args : List Value} {s s' : St} {v : Value} : ∀ {l : List Ck}, tryCk args s l = .ok v s' → ∃ c ∈ l, args = c.args ∧ fits c.pre s = true ∧ v = c.v ∧ s' = c.post.st
  | [], h => by cases h
  | c :: cs, h => by
    have h' : cond (eqL (eqV 5) args c.args && fits c.pre s) (.ok c.v c.post.st) (tryCk args s cs) = .ok v s' := h
    cases e : (eqL (eqV 5) args c.args && fits c.pre s) with
    | false =>
      rw [e] at h'
      obtain ⟨d, h1, h2⟩ := tryCk_some h'
      exact ⟨d, List.mem_cons_of_mem _ h1, h2⟩
    | true =>
      rw [e] at h'
      cases h'
      obtain ⟨e1, e2⟩ := Bool.and_eq_true_iff.1 e
      exact ⟨c, List.mem_cons_self, eqL_eq (eqV_eq 5) e1, e2, rfl, rfl⟩
theorem ckHook_ok {N : Nat} {P : Program} (hm : P.follows .mixedOrders = true) {base : FuncId → Option (List Value → St → Rv)} (hb : HookOk N P base) {cs : List Ck}
    (hc : ∀ c ∈ cs, ∃ hook n, HookOk N P hook ∧ c.ok P hook n = true) : HookOk N P (ckHook cs base) := by
  intro f g hf args args' s s' v E w h ha hx
  unfold ckHook at hf
  split at hf
  · exact hb hf h ha hx
  · cases hf
    obtain ⟨c, h1, rfl, h2, rfl, rfl⟩ := tryCk_some hx
    obtain ⟨h3, rfl⟩ := ofF_mem h1
    obtain ⟨hook, n, hH, hok⟩ := hc c h3
    unfold Ck.ok isRv at hok
    split at hok
    · rename_i u s2 hrun
      obtain ⟨k1, k2⟩ := Bool.and_eq_true_iff.1 hok
      have e := eqV_eq 5 _ _ k1
      subst e
      refine (eval_calls (fun rec R => draw_ok hm R) hH (fits_rel h2 h) ha hrun).mono fun e w' ⟨E', v', q1, q2, q3⟩ => ?_
      exact ⟨E', v', q1, q2, fits_stp h2 k2 q3⟩
    · cases hok
end Go.Ev
