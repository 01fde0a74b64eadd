/-
  RlpDecodes: what its last region needs.
-/
import Derived.Test.YtlpmcdnhnhgmpaaDch
import Derived.Test.YtlpmcdnhnhgmpaaRd6
import Derived.Test.YtlpmcdnhnhgmpaaBk
import Derived.Test.YtlpmcdnhnhgmpaaSam
namespace Go.Proofs.Ytlpmcdnhnhgmpaa
open Go.RowKit

theorem str_vb {w : World} {F : Nat → Prop} {v : Value} {s : List Nat} (h : Str w F v s) (hl : s.length ≤ 140737488351232) : Vb w v s := vb_of_own h.own rfl h.ok.2 hl
theorem Str.below {w w' : World} {F : Nat → Prop} {v : Value} {s : List Nat} (h : Str w F v s) (k : Below w.heap.size w w') : Str w' F v s := ⟨own_same h.own (fun g hg => k.block g (h.own.lt g hg).2), h.foot, h.ok⟩
theorem Str.slice {w : World} {F : Nat → Prop} {v : Value} {s : List Nat} (h : Str w F v s) : ∃ a c, v = .slice a s.length c := own_slice h.own
theorem apart_any5 (w : World) (B : Nat) (al : Option Addr) (cl : Nat) (Us : List Value) (hl : w.ownsRow B 22 1 (.slice al Us.length cl) Us.length Us) (hs : ∀ u ∈ Us, ∃ s, Str w Any u s ∧ s.length ≤ 140737488351232) (sep : Us.Pairwise Sep) (hn : Us.length ≤ 274877906944) :
    Calls Try.prog 18 #[.slice al Us.length cl] w fun e w' => e = .returned (.bool true) ∧ Turn (Blk Us) w w' := by
  have h : ∀ r : Nat, ∃ s : List Nat, ∀ u, Us[r]? = some u → Str w Any u s ∧ s.length ≤ 140737488351232 := fun r => by
    cases e : Us[r]? with
    | none => exact ⟨[], fun u hu => by cases hu⟩
    | some u =>
      obtain ⟨s, hs⟩ := hs u (List.mem_of_getElem? e)
      exact ⟨s, fun u' hu' => by have := Option.some.inj hu'; subst this; exact hs⟩
  obtain ⟨M0, hM⟩ := Classical.axiomOfChoice h
  exact apart_any4 w B al cl Us M0 hl (fun r u hu => (hM r u hu).1) sep (fun r hr => (hM r _ (List.getElem?_eq_getElem hr)).2) hn
/-- strings in intervals of blocks, one behind the other in some order -/
structure In (w : World) (lo hi : Nat) (v : Value) : Prop where
  str : ∃ s, Str w Any v s ∧ s.length ≤ 140737488351232
  lo : ∀ g, v.ownBlock = some g → lo ≤ g
  hi : ∀ g, v.ownBlock = some g → g < hi
theorem In.sep {w : World} {l1 h1 l2 h2 : Nat} {u v : Value} (a : In w l1 h1 u) (b : In w l2 h2 v) (h : h1 ≤ l2 ∨ h2 ≤ l1) : Sep u v := fun g q1 q2 => by
  have := a.lo g q1
  have := a.hi g q1
  have := b.lo g q2
  have := b.hi g q2
  omega
theorem In.below {w w' : World} {lo hi : Nat} {v : Value} (h : In w lo hi v) (k : Below w.heap.size w w') : In w' lo hi v := by
  obtain ⟨s, hs, hl⟩ := h.str
  exact ⟨⟨s, hs.below k, hl⟩, h.lo, h.hi⟩
theorem back_any' (x : It) (w : World) (vb vi : Value) (l : Bool) (hl : l = x.l) (h : Lies Vb w x vb vi) :
    Calls Try.prog 11 #[iv l vb vi] w fun e w' => ∃ vb' vi', e = .returned (iv l vb' vi') ∧ Og 34 [] w' w.heap.size w'.heap.size x vb' vi' ∧ Below w.heap.size w w' := by
  rw [hl]
  exact back_any x w vb vi h
theorem same_any' (x : It) (w : World) (vb vi vb' vi' : Value) (l : Bool) (hl : l = x.l) (h : Lies Vb w x vb vi) (h' : Lies Vb w x vb' vi') :
    Calls Try.prog 10 #[iv l vb vi, iv l vb' vi'] w fun e w' => e = .returned (.bool true) ∧ Below w.heap.size w w' := by
  rw [hl]
  exact same_any x w vb vi vb' vi' h h'
theorem eBack : ∀ args w, (callFunc 11 args).run Try.prog w = .ok (.enter 11 args) w := enters_of Try.func11 (by kernel_rfl) rfl
theorem eSame : ∀ args w, (callFunc 10 args).run Try.prog w = .ok (.enter 10 args) w := enters_of Try.func10 (by kernel_rfl) rfl
theorem eApart : ∀ args w, (callFunc 18 args).run Try.prog w = .ok (.enter 18 args) w := enters_of Try.func18 (by kernel_rfl) rfl

theorem r_conv {ops : Array Oper} {o : Oper} {a : Act} {Q : Exit → Act → World → Prop} {w : World} {K : Act → World → Prop} {E : Prop} (x : Operand) (ho : o.op = .convert 22 9 x) (hw : Region.wanted o (yielded ops a.tmps) = true) (v u : Value) (hx : a.eval x = v) (hc : (convert 22 9 v).run Try.prog w = .ok u w) (h : K (a.put o.dst u) w) :
    if Region.wanted o (yielded ops a.tmps) = true then Oper.wp Try.prog o a w K Q else E := by
  rw [if_pos hw]
  have e : (execOp a.eval o).run Try.prog w = .ok (.value u) w := by
    unfold execOp
    simp only [ho, hx]
    go_simp
  unfold Oper.wp
  rw [e]
  exact h
theorem conv_str {w : World} {F : Nat → Prop} {a : Option Addr} {n c : Nat} {t : List Nat} (en : n = t.length) (h : Str w F (.slice a n c) t) : (convert 22 9 (.slice a n c)).run Try.prog w = .ok (.string (str n (fun i => ((gd t i : Nat) : Int)))) w := by
  obtain ⟨a', g, c', e, -, v, -⟩ := h.view
  injection e with e1 e2 e3
  subst e1
  subst e3
  rw [en]
  exact convert_view v _
theorem sp_len (s : List Nat) : (sp1 s).length ≤ s.length ∧ (sp2 s).length ≤ s.length := by
  unfold sp1 sp2
  constructor
  · split
    · simp; omega
    · simp
  · split
    · simp
    · simp

theorem In.turn {w w' : World} {lo hi : Nat} {v : Value} {F : Nat → Prop} (h : In w lo hi v) (k : Turn F w w') (hF : ∀ i, lo ≤ i → i < hi → ¬ F i) : In w' lo hi v := by
  obtain ⟨s, hs, hl⟩ := h.str
  exact ⟨⟨s, hs.turn' k (fun g hg => hF g (h.lo g hg) (h.hi g hg)), hl⟩, h.lo, h.hi⟩
theorem conv_own {w : World} {B : Nat} {v : Value} {n : Nat} {s : List Nat} (own : w.ownsRow B 5 1 v n (bv s)) (en : n = s.length) (hok : Bs s) : (convert 22 9 v).run Try.prog w = .ok (.string (str n (fun i => ((gd s i : Nat) : Int)))) w := by
  obtain ⟨a, c, rfl⟩ := own_slice own
  refine conv_str (F := Any) en ⟨?_, fun _ _ => trivial, hok⟩
  rw [← en]
  exact own_base own
theorem own_b {w : World} {B : Nat} {v : Value} {n : Nat} {s : List Nat} (en : n = s.length) (h : w.ownsRow B 5 1 v (0 + n) ([] ++ vals (fun i => ((gd s i : Nat) : Int)) n)) : w.ownsRow B 5 1 v n (bv s) := by
  rw [← vals_bv s, ← en]
  simpa using h
theorem own_b3 {w : World} {B : Nat} {v : Value} {n : Nat} {s : List Nat} (h : w.ownsRow B 5 1 v (n + 3) (bv s ++ vals (fun i => ((gd [1, 2, 3] i : Nat) : Int)) 3)) : w.ownsRow B 5 1 v (n + 3) (bv (s ++ [1, 2, 3])) := by
  rw [bv_app, ← vals_bv [1, 2, 3]]
  exact h
theorem smud3 {W wd : World} {X : It} {l : Bool} {a1 a2 a3 a4 a5 a6 : Value} {l1 h1 l2 h2 l3 h3 : Nat} (k : Below W.heap.size W wd) (el : l = X.l) (hn : nodes X ≤ 1048577) (hx : Own W l1 h1 X a1 a2) (hy : Own W l2 h2 X a3 a4) (hz : Own W l3 h3 cdI a5 a6) (q1 : l1 ≤ h1) (q2 : h1 ≤ l2) (q3 : l2 ≤ h2) (q4 : h2 ≤ l3) (q5 : l3 ≤ h3) (q6 : h3 ≤ W.heap.size) :
    Calls Try.prog 17 #[.slice (some ⟨wd.heap.size, 0, none⟩) 3 3] (wd.alloc (.cells #[.bool l, a1, a2, .bool l, a3, a4, .bool true, a5, a6] 25)) fun e w' => e = .returned (.bool true) ∧ Turn (fun i => (l1 ≤ i ∧ i < h1) ∨ (l2 ≤ i ∧ i < h2) ∨ (l3 ≤ i ∧ i < h3)) W w' := by
  subst el
  have hs := k.size
  have C := ch3_mk (hx.keep k (by omega)) (hy.keep k (by omega)) (hz.keep k q6) q1 q2 q3 q4 q5 (by omega)
  refine (smudged_any _ _ _ [X, X, cdI] _ 3 _ _ _ _ _ C (by simp) ?_).mono ?_
  · have hz : nodes cdI ≤ 3 := by decide
    rw [nodesL_cons, nodesL_cons, nodesL_cons, nodesL_nil]
    omega
  · rintro e w' ⟨rfl, t⟩
    refine ⟨rfl, (Turn.of_below (ch k (below_alloc _ _))).trans t ?_⟩
    rintro i ⟨j, hj, u1, u2⟩
    left
    match j, hj with
    | 0, _ => exact Or.inl ⟨u1, u2⟩
    | 1, _ => exact Or.inr (Or.inl ⟨u1, u2⟩)
    | 2, _ => exact Or.inr (Or.inr ⟨u1, u2⟩)
theorem apart4 {W w1 : World} {F G : Nat → Prop} (t : Turn F W w1) {v1 v2 v3 v4 : Value} {q1 q2 q3 q4 : Nat} (i1 : In W q1 q2 v1) (i2 : In W q1 q2 v2) (i3 : In W q3 q4 v3) (i4 : In W q3 q4 v4) (s12 : Sep v1 v2) (s34 : Sep v3 v4) (hq : q2 ≤ q3) (d1 : ∀ i, q1 ≤ i → i < q2 → ¬ F i) (d2 : ∀ i, q3 ≤ i → i < q4 → ¬ F i) (g0 : ∀ i, F i → G i) (g1 : ∀ i, q1 ≤ i → i < q2 → G i) (g2 : ∀ i, q3 ≤ i → i < q4 → G i) :
    Calls Try.prog 18 #[.slice (some ⟨w1.heap.size, 0, none⟩) 4 4] (w1.alloc (.cells #[v1, v2, v3, v4] 22)) fun e w' => e = .returned (.bool true) ∧ Turn G W w' := by
  have t2 : Turn F W (w1.alloc (.cells #[v1, v2, v3, v4] 22)) := t.trans (Turn.alloc (F := fun _ => False) _ _) (fun i h => h.elim)
  have j1 := i1.turn t2 d1
  have j2 := i2.turn t2 d1
  have j3 := i3.turn t2 d2
  have j4 := i4.turn t2 d2
  refine (apart_any5 _ w1.heap.size _ 4 [v1, v2, v3, v4] (World.ownsRow_lit (base := w1.heap.size) (e := 22) (size := 1) w1 #[v1, v2, v3, v4] 4 (Nat.le_refl _) (by decide) rfl) (fun v hv => ?_) ?_ (by simp)).mono ?_
  · simp only [List.mem_cons, List.not_mem_nil, or_false] at hv
    rcases hv with rfl | rfl | rfl | rfl
    · exact j1.str
    · exact j2.str
    · exact j3.str
    · exact j4.str
  · simp only [List.pairwise_cons, List.mem_cons, List.not_mem_nil, or_false, forall_eq_or_imp, forall_eq, List.Pairwise.nil, and_true, false_implies, implies_true]
    exact ⟨⟨s12, j1.sep j3 (Or.inl hq), j1.sep j4 (Or.inl hq)⟩, ⟨j2.sep j3 (Or.inl hq), j2.sep j4 (Or.inl hq)⟩, s34⟩
  · rintro e w' ⟨rfl, t3⟩
    refine ⟨rfl, (t2.mono (fun i h => Or.inl (g0 i h))).trans t3 ?_⟩
    rintro i ⟨v, hv, hg⟩
    left
    simp only [List.mem_cons, List.not_mem_nil, or_false] at hv
    rcases hv with rfl | rfl | rfl | rfl
    · exact g1 i (i1.lo i hg) (i1.hi i hg)
    · exact g1 i (i2.lo i hg) (i2.hi i hg)
    · exact g2 i (i3.lo i hg) (i3.hi i hg)
    · exact g2 i (i4.lo i hg) (i4.hi i hg)
end Go.Proofs.Ytlpmcdnhnhgmpaa
