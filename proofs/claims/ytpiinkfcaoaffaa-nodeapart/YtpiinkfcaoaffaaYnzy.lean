import Derived.Test.YtpiinkfcaoaffaaRozy
import Derived.Test.YtpiinkfcaoaffaaYrzy
/-
  Operations of a region that draws its order, each by a law of its own: nodes.
-/
namespace Go.Proofs.Ytpiinkfcaoaffaa
open Go.RowKit
section
variable {ops : Array Oper} {S : World → Prop} {o : Oper} {a : Act}
theorem y_f62 (hw : Region.wanted o (yielded ops a.tmps) = true) (x : Operand) (f : Nat) (ho : o.op = .fieldAddr 51 x f) (g p : Nat) (hx : a.eval x = .pointer (some ⟨g, p, none⟩)) (hf : f < 3) : YieldsIf Try.prog ops S o (.pointer (some ⟨g, p + f, none⟩)) a :=
  .inl ⟨hw, fun w _ => by
    unfold execOp
    simp only [ho, hx]
    rcases (by omega : f = 0 ∨ f = 1 ∨ f = 2) with rfl | rfl | rfl
    · go_simp
    · go_simp
    · go_simp⟩
theorem y_load4 (hw : Region.wanted o (yielded ops a.tmps) = true) (x : Operand) (ho : o.op = .load 4 x) (g p : Nat) (hx : a.eval x = .pointer (some ⟨g, p, none⟩)) (v : Value) (hS : ∀ w, S w → w.cell? ⟨g, p, none⟩ = some v) : YieldsIf Try.prog ops S o v a :=
  .inl ⟨hw, fun w hs => by
    have c := hS w hs
    unfold execOp
    simp only [ho, hx]
    go_simp⟩
theorem y_load3 (hw : Region.wanted o (yielded ops a.tmps) = true) (x : Operand) (ho : o.op = .load 3 x) (g p : Nat) (hx : a.eval x = .pointer (some ⟨g, p, none⟩)) (v : Value) (hS : ∀ w, S w → w.cell? ⟨g, p, none⟩ = some v) : YieldsIf Try.prog ops S o v a :=
  .inl ⟨hw, fun w hs => by
    have c := hS w hs
    unfold execOp
    simp only [ho, hx]
    go_simp⟩
theorem y_load60 (hw : Region.wanted o (yielded ops a.tmps) = true) (x : Operand) (ho : o.op = .load 49 x) (g p : Nat) (hx : a.eval x = .pointer (some ⟨g, p, none⟩)) (v : Value) (hS : ∀ w, S w → w.cell? ⟨g, p, none⟩ = some v) : YieldsIf Try.prog ops S o v a :=
  .inl ⟨hw, fun w hs => by
    have c := hS w hs
    unfold execOp
    simp only [ho, hx]
    go_simp⟩
theorem y_i60 (hw : Region.wanted o (yielded ops a.tmps) = true) (x i : Operand) (ho : o.op = .indexAddr 49 x i) (g p n c j : Nat) (hx : a.eval x = .slice (some ⟨g, p, none⟩) n c) (hi : a.eval i = .int .i64 j) (hj : j < n) : YieldsIf Try.prog ops S o (.pointer (some ⟨g, p + j * 3, none⟩)) a :=
  .inl ⟨hw, fun w _ => by
    have q : (j : Int) < (n : Int) := by omega
    unfold execOp
    simp only [ho, hx, hi]
    go_simp⟩
theorem y_i27 (hw : Region.wanted o (yielded ops a.tmps) = true) (x i : Operand) (ho : o.op = .indexAddr 27 x i) (g p j : Nat) (hx : a.eval x = .pointer (some ⟨g, p, none⟩)) (hi : a.eval i = .int .i64 j) (hj : j < 16) : YieldsIf Try.prog ops S o (.pointer (some ⟨g, p + j * 34, none⟩)) a :=
  .inl ⟨hw, fun w _ => by
    have q : (j : Int) < 16 := by omega
    unfold execOp
    simp only [ho, hx, hi]
    go_simp⟩
theorem y_f29k (hw : Region.wanted o (yielded ops a.tmps) = true) (x : Operand) (ho : o.op = .fieldAddr 29 x 5) (g : Nat) (hx : a.eval x = .pointer (some ⟨g, 0, none⟩)) : YieldsIf Try.prog ops S o (.pointer (some ⟨g, 38, none⟩)) a :=
  .inl ⟨hw, fun w _ => by
    unfold execOp
    simp only [ho, hx]
    go_simp⟩
theorem y_f29f (hw : Region.wanted o (yielded ops a.tmps) = true) (x : Operand) (f : Nat) (ho : o.op = .fieldAddr 29 x f) (g : Nat) (hx : a.eval x = .pointer (some ⟨g, 0, none⟩)) (hf : f < 5) : YieldsIf Try.prog ops S o (.pointer (some ⟨g, f, none⟩)) a :=
  .inl ⟨hw, fun w _ => by
    unfold execOp
    simp only [ho, hx]
    rcases (by omega : f = 0 ∨ f = 1 ∨ f = 2 ∨ f = 3 ∨ f = 4) with rfl | rfl | rfl | rfl | rfl
    · go_simp
    · go_simp
    · go_simp
    · go_simp
    · go_simp⟩
theorem y_f26a (hw : Region.wanted o (yielded ops a.tmps) = true) (x : Operand) (f : Nat) (ho : o.op = .fieldAddr 26 x f) (g p : Nat) (hx : a.eval x = .pointer (some ⟨g, p, none⟩)) (hf : f < 2) : YieldsIf Try.prog ops S o (.pointer (some ⟨g, p + f, none⟩)) a :=
  .inl ⟨hw, fun w _ => by
    unfold execOp
    simp only [ho, hx]
    rcases (by omega : f = 0 ∨ f = 1) with rfl | rfl
    · go_simp
    · go_simp⟩
theorem y_f26b (hw : Region.wanted o (yielded ops a.tmps) = true) (x : Operand) (ho : o.op = .fieldAddr 26 x 2) (g p : Nat) (hx : a.eval x = .pointer (some ⟨g, p, none⟩)) : YieldsIf Try.prog ops S o (.pointer (some ⟨g, p + 33, none⟩)) a :=
  .inl ⟨hw, fun w _ => by
    unfold execOp
    simp only [ho, hx]
    go_simp⟩
theorem y_ld62 (hw : Region.wanted o (yielded ops a.tmps) = true) (x : Operand) (ho : o.op = .load 51 x) (g p : Nat) (hx : a.eval x = .pointer (some ⟨g, p, none⟩)) (u v z : Value) (hS : ∀ w, S w → w.cell? ⟨g, p, none⟩ = some u ∧ w.cell? ⟨g, p + 1, none⟩ = some v ∧ w.cell? ⟨g, p + 2, none⟩ = some z) : YieldsIf Try.prog ops S o (.agg #[u, v, z]) a :=
  yieldsIf_load_mid hw _ _ ho g p hx [u, v, z] _ (fun w hs => range3 (hS w hs).1 (hS w hs).2.1 (hS w hs).2.2) Try.underlying51 rfl info25s
theorem y_ld26 (hw : Region.wanted o (yielded ops a.tmps) = true) (x : Operand) (ho : o.op = .load 26 x) (g p : Nat) (hx : a.eval x = .pointer (some ⟨g, p, none⟩)) (r : Rf) (v : Value) (hr : r.h.length = 32) (hS : ∀ w, S w → w.rangeAt g p (rcs r v)) : YieldsIf Try.prog ops S o (.agg (rcs r v).toArray) a :=
  yieldsIf_load_mid hw _ _ ho g p hx (rcs r v) _ hS Try.underlying26 rfl (info_rcs hr v)
theorem y_ld24 (hw : Region.wanted o (yielded ops a.tmps) = true) (x : Operand) (ho : o.op = .load 24 x) (g p : Nat) (hx : a.eval x = .pointer (some ⟨g, p, none⟩)) (s : List Nat) (hr : s.length = 32) (hS : ∀ w, S w → w.rangeAt g p (bv s)) : YieldsIf Try.prog ops S o (.agg (bv s).toArray) a :=
  yieldsIf_load_mid hw _ _ ho g p hx (bv s) _ hS Try.underlying24 rfl (info_bv hr)
theorem y_ld29 (hw : Region.wanted o (yielded ops a.tmps) = true) (x : Operand) (ho : o.op = .load 29 x) (g : Nat) (hx : a.eval x = .pointer (some ⟨g, 0, none⟩)) (n : Nd) (u : Nv) (hr : n.W) (hS : ∀ w, S w → w.rangeAt g 0 (nc n u)) : YieldsIf Try.prog ops S o (.agg (nc n u).toArray) a :=
  yieldsIf_load_mid hw _ _ ho g 0 hx (nc n u) _ hS Try.underlying29 rfl (info_nc hr u)
theorem y_bd (hw : Region.wanted o (yielded ops a.tmps) = true) (t : TypeId) (L : List (Nat × Operand)) (ho : o.op = .build t L.toArray) (cells : Array Value)
    (hb : Try.prog.built t (L.map fun (i, x) => (i, a.eval x)) = some cells) : YieldsIf Try.prog ops S o (.agg cells) a :=
  .inl ⟨hw, fun w _ => by
    have hb' : Try.prog.built t (L.toArray.map fun (i, x) => (i, a.eval x)).toList = some cells := by simp only [List.map_toArray]; exact hb
    unfold execOp
    simp only [ho, Sem.run_bind, run_build w t _ cells hb', Result.andThen_ok]
    rfl⟩
theorem y_not (hw : Region.wanted o (yielded ops a.tmps) = true) (x : Operand) (ho : o.op = .unOp .not 4 x) (b : Bool) (hx : a.eval x = .bool b) : YieldsIf Try.prog ops S o (.bool (!b)) a :=
  .inl ⟨hw, fun w _ => by
    unfold execOp
    simp only [ho, hx]
    go_simp⟩
theorem y_ext (hw : Region.wanted o (yielded ops a.tmps) = true) (x : Operand) (i : Nat) (ho : o.op = .extract x i) (vs : Array Value) (v : Value) (hx : a.eval x = .tuple vs) (hv : vs[i]? = some v) : YieldsIf Try.prog ops S o v a :=
  .inl ⟨hw, fun w _ => by
    unfold execOp
    simp only [ho, hx, Instr.extract, hv]
    rfl⟩
theorem r_st29b {Q : Exit → Act → World → Prop} {w : World} {K : Act → World → Prop} {E : Prop} (hw : Region.wanted o (yielded ops a.tmps) = true) (x y : Operand) (ho : o.op = .store 29 x y) (b : Nat) (n m : Nd) (u t : Nv) (hn : n.W) (hm : m.W) (h1 : (nc n u).toArray.all (·.oneCell') = true) (hb : w.heap[b]? = some (.cells (nc m t).toArray 29 (0, 0)))
    (hx : a.eval x = .pointer (some ⟨b, 0, none⟩)) (hy : a.eval y = .agg (nc n u).toArray) (h : K (a.put o.dst undef) (w.setRow b (nc n u).toArray)) :
    if Region.wanted o (yielded ops a.tmps) = true then Oper.wp Try.prog o a w K Q else E := by
  rw [if_pos hw]
  exact wp_store_row 29 x y ho b (nc n u).toArray hx hy 29 (nc m t).toArray hb (by rw [List.size_toArray]; exact info_nc hn u) (by rw [List.size_toArray, List.size_toArray, nc_len hn, nc_len hm]) h1 h
end
end Go.Proofs.Ytpiinkfcaoaffaa
