import Derived.Test.YtmdodfnealkpdaaDoorG2zz
import Derived.Below
import Derived.Test.YtmdodfnealkpdaaDoorH7zz
import Derived.Test.YtmdodfnealkpdaaDoorCards
import Derived.Test.YtmdodfnealkpdaaDoorTie
import Derived.ProofKit
import Derived.OpenShut
import Derived.Deep.DeepHandedRow
import Derived.Lib.LaidTab
import Derived.Lib.LaidU8
/-
  The evaluator: the whole.
-/
namespace Go.Ev
open Go Go.RowKit
section
variable {P : Program} {N : Nat}
/-- Functions whose contract is told. -/
def HookOk (N : Nat) (P : Program) (hook : FuncId → Option (List Value → St → Rv)) : Prop :=
  ∀ {f : FuncId} {g : List Value → St → Rv}, hook f = some g → ∀ {args args' : List Value} {s s' : St} {v : Value} {E : En} {w : World}, Rel N E s w → VRs E args args' → g args s = .ok v s' →
    Calls P f ⟨args'⟩ w fun e w' => ∃ E' v', e = .returned v' ∧ VR E' v v' ∧ Stp N E s w E' s' w'
theorem run_ok (hD : ∀ rec, RecOk N P rec → DrawOk N P rec) {hook : FuncId → Option (List Value → St → Rv)} (hH : HookOk N P hook) : ∀ n, RecOk N P (run P hook n) := by
  intro n
  induction n with
  | zero => exact ⟨fun _ _ hx => (by cases hx), fun _ _ hx => (by cases hx), fun _ _ _ hx => (by cases hx)⟩
  | succ n ih =>
    refine ⟨fun {f args args' s s' v E w} h ha hx cs => ?_, fun {f args args' s s' v E w} h ha hx c cs hc => ?_, fun {l args args' s s' v E w} h ha hl hx => ?_⟩
    · have hx' : (match hook f with
        | some g => orElse (g args s) (enter P (run P hook n) f args) s
        | none => enter P (run P hook n) f args s) = .ok v s' := hx
      split at hx'
      · rename_i g hg
        unfold orElse at hx'
        split at hx'
        case h_2 => exact enter_ok ih (hD _ ih) h ha hx' .normal cs (.inl rfl)
        rename_i v2 s2 hg2
        cases hx'
        replace hx' := hg2
        obtain ⟨e, w', fr, ⟨E', v', rfl, q1, q2⟩, q3, q4, q5, q6, q7, fn, q8, q9⟩ := hH hg h ha hx' cs
        exact ⟨E', w', v', fr, q2, q1, q3, q4, q7, q5, q6, fn, by rw [← q4]; exact q8, q9⟩
      · exact enter_ok ih (hD _ ih) h ha hx' .normal cs (.inl rfl)
    · exact enter_ok ih (hD _ ih) h ha (show enter P (run P hook n) f args s = .ok v s' from hx) .deferred (c :: cs) (.inr ⟨rfl, c, cs, rfl, hc⟩)
    · exact round_ok ih (hD _ ih) h ha hl (show round P (run P hook n) l args s = .ok v s' from hx)
/-- What the evaluator comes to, the program comes to. -/
theorem eval_calls (hD : ∀ rec, RecOk N P rec → DrawOk N P rec) {hook : FuncId → Option (List Value → St → Rv)} (hH : HookOk N P hook) {n : Nat} {f : FuncId} {args args' : List Value} {s s' : St} {v : Value} {E : En} {w : World} (h : Rel N E s w) (ha : VRs E args args')
    (hx : run P hook n (.call f args) s = .ok v s') : Calls P f ⟨args'⟩ w fun e w' => ∃ E' v', e = .returned v' ∧ VR E' v v' ∧ Stp N E s w E' s' w' := by
  intro cs
  obtain ⟨E', w', v', fr, z1, z2, z3, z4, z5, z6, z7, fn, z8, z9⟩ := (run_ok hD hH n).call h ha hx cs
  exact ⟨.returned v', w', fr, ⟨E', v', rfl, z2, z1⟩, z3, z4, z6, z7, z5, fn, by rw [z4]; exact z8, z9⟩
theorem Stp.below {E E' : En} {s s' : St} {w w' : World} (S : Stp N E s w E' s' w') (h : Rel N E s w) : Below N w w' :=
  ⟨S.os, S.tape, S.output, S.size, fun k hk => S.kept k (Nat.lt_of_lt_of_le hk h.flr) fun b o hb ho e => by have := h.flo b o hb ho; omega⟩
/-- The beginning: some tables that are read alone. -/
def start : En := { nx := 1000, ι := fun b => b, sh := fun _ => 0, sz := fun _ => 0 }
theorem rel_start {w : World} {hp : Tr Ob} (h : ∀ b o, hp.get b = some o → b < 1000 ∧ ∃ cs c t fr, o = .ro cs ∧ w.heap[b]? = some (.cells c t fr) ∧ ∀ (i : Nat) (v : Value), cs[i]? = some v → c[i]? = some v ∧ plain 1 v = true) : Rel w.heap.size start (.mk hp 1000 .nil) w := by
  refine ⟨rfl, Nat.le_refl _, (by show 1000 ≤ 1000 + 1; decide), fun b _ => ⟨rfl, rfl⟩, Nat.le_refl _, fun b o hb => ?_, fun b o hb ho => ?_, fun b o b' o' hb _ ho => ?_, fun b o hb hg => ?_, fun b o hb hd hr => ?_⟩
  · obtain ⟨h1, cs, c, t, fr, rfl, h2, h3⟩ := h b o hb
    exact ⟨h1, c, t, fr, h2, fun i v hv => ⟨v, by show c[0 + i]? = some v; rw [Nat.zero_add]; exact (h3 i v hv).1, plain_VR _ 1 v (h3 i v hv).2⟩⟩
  · obtain ⟨_, cs, c, t, fr, rfl, _⟩ := h b o hb; exact ho.elim
  · obtain ⟨_, cs, c, t, fr, rfl, _⟩ := h b o hb; exact ho.elim
  · obtain ⟨_, cs, c, t, fr, rfl, _⟩ := h b o hb; exact absurd rfl hg
  · obtain ⟨_, cs, c, t, fr, rfl, h2, _⟩ := h b o hb
    exact ObR.lt (E := start) (b := b) (o := .ro []) (w := w) ⟨c, t, fr, h2, fun i v hv => by simp at hv⟩ (fun e => by cases e)
end
end Go.Ev
/-
  The evaluator: closed sentences.
-/
namespace Go.Ev
open Go Go.RowKit
/-- Tables that are read alone. -/
def tables (tabs : List (Nat × List Value)) : Tr Ob := tabs.foldr (fun p t => t.set (.ro p.2) p.1) .nil
theorem tables_get : ∀ (tabs : List (Nat × List Value)), (∀ p ∈ tabs, p.1 < 1000) → ∀ b o, (tables tabs).get b = some o → ∃ p ∈ tabs, b = p.1 ∧ o = .ro p.2
  | [], _, b, o, h => by rw [show tables [] = .nil from rfl, Tr.get_nil] at h; cases h
  | p :: tabs, hlt, b, o, h => by
    have h' : ((tables tabs).set (.ro p.2) p.1).get b = some o := h
    have := hlt p List.mem_cons_self
    rw [Tr.get_set _ _ _ (by omega)] at h'
    split at h'
    · rename_i e
      cases h'
      exact ⟨p, List.mem_cons_self, e, rfl⟩
    · obtain ⟨q, h1, h2⟩ := tables_get tabs (fun q hq => hlt q (List.mem_cons_of_mem _ hq)) b o h'
      exact ⟨q, List.mem_cons_of_mem _ h1, h2⟩
/-- The answer is yes. -/
def isT (r : Rv) : Bool := match r with
  | .ok (.bool true) _ => true
  | _ => false
/-- A closed sentence that the evaluator finds true. -/
theorem closed {P : Program} {hook : FuncId → Option (List Value → St → Rv)} (hm : P.follows .mixedOrders = true) {f : FuncId} {n : Nat} {tabs : List (Nat × List Value)} {W : World} (hH : HookOk W.heap.size P hook)
    (ht : ∀ p ∈ tabs, p.1 < 1000 ∧ ∃ c t fr, W.heap[p.1]? = some (.cells c t fr) ∧ ∀ (i : Nat) (v : Value), p.2[i]? = some v → c[i]? = some v ∧ plain 1 v = true)
    (hx : isT (run P hook n (.call f []) (.mk (tables tabs) 1000 .nil)) = true) :
    Calls P f #[] W fun e W' => e = .returned (.bool true) ∧ Below W.heap.size W W' := by
  have hr := rel_start (w := W) (hp := tables tabs) fun b o hb => by
    obtain ⟨p, h1, rfl, rfl⟩ := tables_get tabs (fun p hp => (ht p hp).1) b o hb
    obtain ⟨h2, c, t, fr, h3, h4⟩ := ht p h1
    exact ⟨h2, p.2, c, t, fr, rfl, h3, h4⟩
  cases hv : run P hook n (.call f []) (.mk (tables tabs) 1000 .nil) with
  | no => rw [hv] at hx; cases hx
  | ok v s' =>
    rw [hv] at hx
    have e : v = .bool true := by
      unfold isT at hx
      split at hx
      · rename_i h; cases h; rfl
      · cases hx
    subst e
    refine (eval_calls (fun rec R => draw_ok hm R) hH hr .nil hv).mono fun e W' ⟨E', v', h1, h2, h3⟩ => ?_
    rw [h2.bool_inv] at h1
    exact ⟨h1, h3.below hr⟩
end Go.Ev
/-
  The table of journal's kinds, as the rows lay it.
-/
namespace Go.Proofs.YtmdodfnealkpdaaDoor.Dg
open Go Go.ChangeShapes Go.WideShapes Go.ChangeAt Go.RowKit
def KN : List Value := [.int .i64 (.ofNat 1), .int .i64 (.ofNat 0), .int .i64 (.ofNat 0), .bool true, .int .i64 (.ofNat 2), .int .i64 (.ofNat 1), .int .i64 (.ofNat 32), .bool false]
theorem gKinds : Tryd.prog.globalNamed "cairn/journal.kinds" = some 0 := by kernel_rfl
theorem tKinds : (Tryd.prog.globals[0]?).map (·.type) = some 35 := by kernel_rfl
set_option maxRecDepth 100000 in
theorem kinds_row {H : Type} {enc : TypeId × Value → H} {w : World} {base : Nat} {sp : Nat → Bool} {held : Bool} {fuel : Nat} {x : DataW H × List MemPlace} {a b c d : Value} {z1 z2 z3 : Int} {t : Bool}
    (h : DataW.trod enc Tryd.prog w base sp held fuel 31 [a, b, c, d] = some x) (hx : x.1 = .agg [.lit (.int .i64 z1), .lit (.int .i64 z2), .lit (.int .i64 z3), .lit (.bool t)]) :
    a = .int .i64 z1 ∧ b = .int .i64 z2 ∧ c = .int .i64 z3 ∧ d = .bool t := by
  obtain ⟨xs, m, _, rfl, _, hn, hf⟩ := DataW.trod_struct (fs := _) (show Tryd.prog.underlying 31 = some (.struct _) from Tryd.underlying31) h
  obtain ⟨x0, x1, x2, x3, rfl⟩ : ∃ x0 x1 x2 x3, xs = [x0, x1, x2, x3] := by
    match xs, hn with
    | [x0, x1, x2, x3], _ => exact ⟨x0, x1, x2, x3, rfl⟩
  have h0 := hf 0 _ rfl
  have h1 := hf 1 _ rfl
  have h2 := hf 2 _ rfl
  have h3 := hf 3 _ rfl
  simp only [List.getElem?_cons_zero, List.getElem?_cons_succ] at h0 h1 h2 h3
  obtain ⟨n0, e0, r0, _⟩ := DataW.trod_int Tryd.underlying3 h0
  obtain ⟨n1, e1, r1, _⟩ := DataW.trod_int Tryd.underlying2 h1
  obtain ⟨n2, e2, r2, _⟩ := DataW.trod_int Tryd.underlying3 h2
  obtain ⟨n3, e3, r3⟩ := DataW.trod_bool Tryd.underlying4 h3
  subst r0 r1 r2 r3
  cases e0; cases e1; cases e2; cases e3
  simp only [List.map, DataW.agg.injEq, List.cons.injEq, DataW.lit.injEq, Lit.int.injEq, Lit.bool.injEq, true_and, and_true] at hx
  obtain ⟨rfl, rfl, rfl, rfl⟩ := hx
  exact ⟨rfl, rfl, rfl, rfl⟩
set_option maxRecDepth 100000 in
theorem kinds_cells {H : Type} {enc : TypeId × Value → H} {w : World} {base : Nat} {sp : Nat → Bool} {held : Bool} {fuel : Nat} {cs : List Value} {p : List MemPlace}
    (h : DataW.trod enc Tryd.prog w base sp held fuel 35 cs = some (Rows.laid_cairn_journal_kinds, p)) : cs = KN := by
  obtain ⟨xs, m, _, hx, hl, hn, hf⟩ := DataW.trod_array Tryd.underlying35 h
  obtain ⟨x0, x1, rfl⟩ : ∃ x0 x1, xs = [x0, x1] := by
    match xs, hn with
    | [x0, x1], _ => exact ⟨x0, x1, rfl⟩
  have c0 : Tryd.prog.cellsOf 35 = 8 := by kernel_rfl
  have c1 : Tryd.prog.cellsOf 31 = 4 := by kernel_rfl
  rw [c0] at hl
  match cs, hl with
  | [a0, a1, a2, a3, a4, a5, a6, a7], _ =>
    have h0 := hf 0 (by decide)
    have h1 := hf 1 (by decide)
    rw [c1] at h0 h1
    have hx1 := congrArg Prod.fst hx
    unfold Rows.laid_cairn_journal_kinds at hx1
    simp only [List.map, DataW.agg.injEq, List.cons.injEq, and_true] at hx1
    obtain ⟨rfl, rfl, rfl, rfl⟩ := kinds_row h0 hx1.1.symm
    obtain ⟨rfl, rfl, rfl, rfl⟩ := kinds_row h1 hx1.2.symm
    rfl
set_option maxRecDepth 100000 in
theorem kinds_met {W : World} {l : List (String × DataW Unit)} (h : laidMet Tryd.prog l W) (m1 : ("cairn/journal.kinds", Rows.laid_cairn_journal_kinds) ∈ l) : ∀ i, W.cell? ⟨0, i, none⟩ = KN[i]? := by
  obtain ⟨g', t', cs, fuel, p, hg', ht', hvar, hd⟩ := Lib.laidMet.reads h m1
  obtain rfl := Option.some.inj (gKinds.symm.trans hg')
  obtain rfl := Option.some.inj (tKinds.symm.trans ht')
  intro i
  have := World.var?_cell gKinds hvar i
  rw [this]
  rw [← kinds_cells hd]
  simp
end Go.Proofs.YtmdodfnealkpdaaDoor.Dg
