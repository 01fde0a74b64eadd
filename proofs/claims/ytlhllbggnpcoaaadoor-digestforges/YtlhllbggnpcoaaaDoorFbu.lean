import Derived.Test.YtlhllbggnpcoaaaDoorYld
import Derived.Great.BuildSlice
/-
  More operations of a region that draws its order, each by a law of its own.
-/
namespace Go.Proofs.YtlhllbggnpcoaaaDoor
open Go.RowKit

section
variable {ops : Array Oper} {S : World → Prop} {o : Oper} {a : Act}
theorem y_no (hw : Region.wanted o (yielded ops a.tmps) = false) : YieldsIf Tryd.prog ops S o undef a := .inr ⟨hw, rfl⟩
theorem r_no {Q : Exit → Act → World → Prop} {w : World} {K : Act → World → Prop} (hw : Region.wanted o (yielded ops a.tmps) = false) (h : K (a.put o.dst undef) w) :
    if Region.wanted o (yielded ops a.tmps) = true then Oper.wp Tryd.prog o a w K Q else K (a.put o.dst undef) w := by
  rw [hw]
  exact h
theorem y_indexL (hw : Region.wanted o (yielded ops a.tmps) = true) (x i : Operand) (ho : o.op = .indexAddr 37 x i) (g n c j : Nat) (hx : a.eval x = .slice (some ⟨g, 0, none⟩) n c) (hi : a.eval i = .int .i64 j) (hj : j < n) : YieldsIf Tryd.prog ops S o (.pointer (some ⟨g, j, none⟩)) a :=
  .inl ⟨hw, fun w _ => by
    have q : (j : Int) < (n : Int) := by omega
    unfold execOp
    simp only [ho, hx, hi]
    go_simp⟩
theorem y_indexH (hw : Region.wanted o (yielded ops a.tmps) = true) (x i : Operand) (ho : o.op = .indexAddr 38 x i) (g n c j : Nat) (hx : a.eval x = .slice (some ⟨g, 0, none⟩) n c) (hi : a.eval i = .int .i64 j) (hj : j < n) : YieldsIf Tryd.prog ops S o (.pointer (some ⟨g, j * 32, none⟩)) a :=
  .inl ⟨hw, fun w _ => by
    have q : (j : Int) < (n : Int) := by omega
    unfold execOp
    simp only [ho, hx, hi]
    go_simp⟩
theorem y_gtr0 (hw : Region.wanted o (yielded ops a.tmps) = true) (x : Operand) (ho : o.op = .binOp .gtr 3 x (.const (.int .i64 0)) 3) (d : Int) (hx : a.eval x = .int .i64 d) (hd : ¬ 0 < d) : YieldsIf Tryd.prog ops S o (.bool false) a :=
  .inl ⟨hw, fun w _ => by
    unfold execOp
    simp only [ho, hx]
    go_simp⟩
theorem y_eql0 (hw : Region.wanted o (yielded ops a.tmps) = true) (x : Operand) (ho : o.op = .binOp .eql 3 x (.const (.int .i64 0)) 3) (d : Int) (hx : a.eval x = .int .i64 d) (r : Bool) (hd : (d == 0) = r) : YieldsIf Tryd.prog ops S o (.bool r) a :=
  .inl ⟨hw, fun w _ => by
    unfold execOp
    simp only [ho, hx]
    go_simp⟩
theorem y_lss0 (hw : Region.wanted o (yielded ops a.tmps) = true) (x : Operand) (ho : o.op = .binOp .lss 3 x (.const (.int .i64 0)) 3) (d : Int) (hx : a.eval x = .int .i64 d) (r : Bool) (hd : decide (d < 0) = r) : YieldsIf Tryd.prog ops S o (.bool r) a :=
  .inl ⟨hw, fun w _ => by
    unfold execOp
    simp only [ho, hx]
    go_simp⟩
theorem y_sub1 (hw : Region.wanted o (yielded ops a.tmps) = true) (x : Operand) (ho : o.op = .binOp .sub 3 x (.const (.int .i64 1)) 3) (m : Nat) (hx : a.eval x = .int .i64 ((m + 1 : Nat) : Int)) (hm : m ≤ 549755813888) : YieldsIf Tryd.prog ops S o (.int .i64 m) a :=
  .inl ⟨hw, fun w _ => by
    have e : IntKind.i64.wrap (m : Int) = m := by
      rw [IntKind.wrap_i64]
      omega
    unfold execOp
    simp only [ho, hx]
    go_simp⟩
theorem y_eqlH (hw : Region.wanted o (yielded ops a.tmps) = true) (x y : Operand) (ho : o.op = .binOp .eql 31 x y 31) (u v : Array Value) (hx : a.eval x = .agg u) (hy : a.eval y = .agg v) (r : Bool) (he : ∀ w0 : World, (Op.equalIn 10000 31 (.agg u) (.agg v)).run Tryd.prog w0 = .ok r w0) : YieldsIf Tryd.prog ops S o (.bool r) a :=
  .inl ⟨hw, fun w _ => by
    have e := he w
    unfold execOp
    simp only [ho, hx, hy]
    go_simp⟩
theorem y_pick_t (hw : Region.wanted o (yielded ops a.tmps) = true) (x y z : Operand) (ho : o.op = .pick x y z) (v : Value) (hx : a.eval x = .bool true) (hy : a.eval y = v) : YieldsIf Tryd.prog ops S o v a :=
  .inl ⟨hw, fun w _ => by
    unfold execOp
    simp only [ho, hx, hy]
    go_simp⟩
end
end Go.Proofs.YtlhllbggnpcoaaaDoor

/-
  A forgery built.
-/
namespace Go.Proofs.YtlhllbggnpcoaaaDoor
open Go.RowKit Go.Sort Go.Maps

theorem lst_self {x : List Nat} (h : IsH x) : lst 32 (fun i => x.getD i 0) = x := by
  unfold lst
  apply List.ext_getElem?
  intro i
  by_cases hi : i < 32
  · have hx : i < x.length := by rw [h.1]; exact hi
    rw [List.getElem?_map, List.getElem?_range hi, List.getElem?_eq_getElem hx]
    simp [List.getD, hx]
  · rw [List.getElem?_eq_none (by simp; omega), List.getElem?_eq_none (by rw [h.1]; omega)]
theorem builtF (a : Option Addr) (n c : Nat) (f : Nat → Nat) : Tryd.prog.built 47 [(0, .slice a n c), (1, .agg (bv (lst 32 f)).toArray)] = some (.slice a n c :: bv (lst 32 f)).toArray := by kernel_rfl
theorem builtF' (a : Option Addr) (n c : Nat) {x : List Nat} (h : IsH x) : Tryd.prog.built 47 [(0, .slice a n c), (1, .agg (hA x))] = some (.slice a n c :: bv x).toArray := by
  have := builtF a n c (fun i => x.getD i 0)
  rw [lst_self h] at this
  exact this
theorem fillF (a : Option Addr) (n c : Nat) (f : Nat → Nat) : Instr.fill (fun i => some (i * 33, 33)) ((Array.range (1 * 33)).map ((Value.agg (nilS :: bv (List.replicate 32 0)).toArray).cells[· % (Value.agg (nilS :: bv (List.replicate 32 0)).toArray).cells.size]!)) [(0, .agg (.slice a n c :: bv (lst 32 f)).toArray)] = some (.slice a n c :: bv (lst 32 f)).toArray := by kernel_rfl
theorem fillF' (a : Option Addr) (n c : Nat) {x : List Nat} (h : IsH x) : Instr.fill (fun i => some (i * 33, 33)) ((Array.range (1 * 33)).map ((Value.agg (nilS :: bv (List.replicate 32 0)).toArray).cells[· % (Value.agg (nilS :: bv (List.replicate 32 0)).toArray).cells.size]!)) [(0, .agg (.slice a n c :: bv x).toArray)] = some (.slice a n c :: bv x).toArray := by
  have := fillF a n c (fun i => x.getD i 0)
  rw [lst_self h] at this
  exact this

section
variable {ops : Array Oper} {S : World → Prop} {o : Oper} {a : Act}
/-- a call of a function of one argument -/
theorem r_call1 {Q : Exit → Act → World → Prop} {w : World} {K : Act → World → Prop} (f : Nat) (x : Operand) (ts : Array TypeId) (ho : o.op = .call { callee := .value (.func f), args := #[x], argTypes := ts }) (hw : Region.wanted o (yielded ops a.tmps) = true) (u : Value) (hx : a.eval x = u)
    (eg : ∀ args w, (callFunc f args).run Tryd.prog w = .ok (.enter f args) w) (hc : Calls Tryd.prog f #[u] w fun e w' => ∃ z, e = .returned z ∧ K (a.put o.dst z) w') :
    if Region.wanted o (yielded ops a.tmps) = true then Oper.wp Tryd.prog o a w K Q else K (a.put o.dst undef) w := by
  rw [if_pos hw]
  have e : (execOp a.eval o).run Tryd.prog w = .ok (.enter f #[u]) w := by
    unfold execOp
    have := eg #[u] w
    simp only [ho, resolve, List.map_toArray, List.map_cons, List.map_nil, hx]
    go_simp
  unfold Oper.wp
  rw [e, Oper.upon_enter]
  refine hc.mono ?_
  rintro _ w' ⟨z, rfl, h⟩
  exact h
theorem r_buildF {Q : Exit → Act → World → Prop} {w : World} {K : Act → World → Prop} {E : Prop} (y : Operand) (ho : o.op = .buildSlice 34 1 #[(0, y)]) (hw : Region.wanted o (yielded ops a.tmps) = true) (p : Option Addr) (n c : Nat) {x : List Nat} (hx : IsH x) (hy : a.eval y = .agg (.slice p n c :: bv x).toArray)
    (h : K (a.put o.dst (.slice (some ⟨w.heap.size, 0, none⟩) 1 1)) (w.alloc (.cells (.slice p n c :: bv x).toArray 47))) :
    if Region.wanted o (yielded ops a.tmps) = true then Oper.wp Tryd.prog o a w K Q else E := by
  rw [if_pos hw]
  obtain ⟨i0, hi0, hz0, hz1, hz2⟩ := info_parts infoF
  refine wp_buildSlice 34 47 1 _ ho _ i0 _ Tryd.underlying34 hi0 hz0 (by rw [hz1]; decide) (by rw [hz1]; decide) ?_ h
  rw [hz1]
  simp only [List.map_toArray, List.map_cons, List.map_nil, hy]
  exact fillF' p n c hx
end
end Go.Proofs.YtlhllbggnpcoaaaDoor
