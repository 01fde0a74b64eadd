import Derived.Test.YtpmdjopojcgpeaaGreatDoorCaq
/-
  Operations of a region that draws its order, each by a law of its own (gen_ys.py).
-/
namespace Go.Proofs.YtpmdjopojcgpeaaGreatDoor
open Go.RowKit

section
variable {ops : Array Oper} {S : World → Prop} {o : Oper} {a : Act}
theorem y_move (hw : Region.wanted o (yielded ops a.tmps) = true) (x : Operand) (ho : o.op = .move x) (v : Value) (hx : a.eval x = v) : YieldsIf Tryz.prog ops S o v a :=
  .inl ⟨hw, fun w hs => by
    unfold execOp
    simp only [ho, hx]
    rfl⟩
theorem y_assign (hw : Region.wanted o (yielded ops a.tmps) = true) (x : Operand) (ho : o.op = .assign x) (v : Value) (hx : a.eval x = v) : YieldsIf Tryz.prog ops S o v a :=
  .inl ⟨hw, fun w hs => by
    unfold execOp
    simp only [ho, hx]
    rfl⟩
theorem y_no (hw : Region.wanted o (yielded ops a.tmps) = false) : YieldsIf Tryz.prog ops S o undef a := .inr ⟨hw, rfl⟩
theorem y_pick_t (hw : Region.wanted o (yielded ops a.tmps) = true) (x y z : Operand) (ho : o.op = .pick x y z) (v : Value) (hx : a.eval x = .bool true) (hy : a.eval y = v) : YieldsIf Tryz.prog ops S o v a :=
  .inl ⟨hw, fun w hs => by
    unfold execOp
    simp only [ho, hx, hy]
    go_simp⟩
theorem y_pick_f (hw : Region.wanted o (yielded ops a.tmps) = true) (x y z : Operand) (ho : o.op = .pick x y z) (v : Value) (hx : a.eval x = .bool false) (hz : a.eval z = v) : YieldsIf Tryz.prog ops S o v a :=
  .inl ⟨hw, fun w hs => by
    unfold execOp
    simp only [ho, hx, hz]
    go_simp⟩
theorem y_not (hw : Region.wanted o (yielded ops a.tmps) = true) (x : Operand) (ho : o.op = .unOp .not 4 x) (b : Bool) (hx : a.eval x = .bool b) : YieldsIf Tryz.prog ops S o (.bool (!b)) a :=
  .inl ⟨hw, fun w hs => by
    unfold execOp
    simp only [ho, hx]
    go_simp⟩
theorem y_ext (hw : Region.wanted o (yielded ops a.tmps) = true) (x : Operand) (i : Nat) (ho : o.op = .extract x i) (vs : Array Value) (v : Value) (hx : a.eval x = .tuple vs) (hv : vs[i]? = some v) : YieldsIf Tryz.prog ops S o v a :=
  .inl ⟨hw, fun w hs => by
    unfold execOp
    simp only [ho, hx, Instr.extract, hv]
    rfl⟩
theorem y_nil (hw : Region.wanted o (yielded ops a.tmps) = true) (x : Operand) (ho : o.op = .nilCheck x) (p : Addr) (hx : a.eval x = .pointer (some p)) : YieldsIf Tryz.prog ops S o (.pointer (some p)) a :=
  .inl ⟨hw, fun w hs => by
    unfold execOp
    simp only [ho, hx]
    go_simp⟩
theorem y_bd (hw : Region.wanted o (yielded ops a.tmps) = true) (t : TypeId) (L : List (Nat × Operand)) (ho : o.op = .build t L.toArray) (cells : Array Value)
    (hb : Tryz.prog.built t (L.map fun (i, x) => (i, a.eval x)) = some cells) : YieldsIf Tryz.prog ops S o (.agg cells) a :=
  .inl ⟨hw, fun w _ => by
    have hb' : Tryz.prog.built t (L.toArray.map fun (i, x) => (i, a.eval x)).toList = some cells := by simp only [List.map_toArray]; exact hb
    unfold execOp
    simp only [ho, Sem.run_bind, run_build w t _ cells hb', Result.andThen_ok]
    rfl⟩
theorem y_l_int (hw : Region.wanted o (yielded ops a.tmps) = true) (x : Operand) (ho : o.op = .load 3 x) (g p : Nat) (hx : a.eval x = .pointer (some ⟨g, p, none⟩)) (v : Value) (hS : ∀ w, S w → w.cell? ⟨g, p, none⟩ = some v) : YieldsIf Tryz.prog ops S o v a :=
  .inl ⟨hw, fun w hs => by
    have c := hS w hs
    unfold execOp
    simp only [ho, hx]
    go_simp⟩
theorem y_l_bool (hw : Region.wanted o (yielded ops a.tmps) = true) (x : Operand) (ho : o.op = .load 4 x) (g p : Nat) (hx : a.eval x = .pointer (some ⟨g, p, none⟩)) (v : Value) (hS : ∀ w, S w → w.cell? ⟨g, p, none⟩ = some v) : YieldsIf Tryz.prog ops S o v a :=
  .inl ⟨hw, fun w hs => by
    have c := hS w hs
    unfold execOp
    simp only [ho, hx]
    go_simp⟩
theorem y_l_int64 (hw : Region.wanted o (yielded ops a.tmps) = true) (x : Operand) (ho : o.op = .load 2 x) (g p : Nat) (hx : a.eval x = .pointer (some ⟨g, p, none⟩)) (v : Value) (hS : ∀ w, S w → w.cell? ⟨g, p, none⟩ = some v) : YieldsIf Tryz.prog ops S o v a :=
  .inl ⟨hw, fun w hs => by
    have c := hS w hs
    unfold execOp
    simp only [ho, hx]
    go_simp⟩
theorem y_l_Errno (hw : Region.wanted o (yielded ops a.tmps) = true) (x : Operand) (ho : o.op = .load 23 x) (g p : Nat) (hx : a.eval x = .pointer (some ⟨g, p, none⟩)) (v : Value) (hS : ∀ w, S w → w.cell? ⟨g, p, none⟩ = some v) : YieldsIf Tryz.prog ops S o v a :=
  .inl ⟨hw, fun w hs => by
    have c := hS w hs
    unfold execOp
    simp only [ho, hx]
    go_simp⟩
theorem y_l_dev (hw : Region.wanted o (yielded ops a.tmps) = true) (x : Operand) (ho : o.op = .load 22 x) (g p : Nat) (hx : a.eval x = .pointer (some ⟨g, p, none⟩)) (v : Value) (hS : ∀ w, S w → w.cell? ⟨g, p, none⟩ = some v) : YieldsIf Tryz.prog ops S o v a :=
  .inl ⟨hw, fun w hs => by
    have c := hS w hs
    unfold execOp
    simp only [ho, hx]
    go_simp⟩
theorem y_l_chs (hw : Region.wanted o (yielded ops a.tmps) = true) (x : Operand) (ho : o.op = .load 47 x) (g p : Nat) (hx : a.eval x = .pointer (some ⟨g, p, none⟩)) (v : Value) (hS : ∀ w, S w → w.cell? ⟨g, p, none⟩ = some v) : YieldsIf Tryz.prog ops S o v a :=
  .inl ⟨hw, fun w hs => by
    have c := hS w hs
    unfold execOp
    simp only [ho, hx]
    go_simp⟩
theorem y_l_byt (hw : Region.wanted o (yielded ops a.tmps) = true) (x : Operand) (ho : o.op = .load 29 x) (g p : Nat) (hx : a.eval x = .pointer (some ⟨g, p, none⟩)) (v : Value) (hS : ∀ w, S w → w.cell? ⟨g, p, none⟩ = some v) : YieldsIf Tryz.prog ops S o v a :=
  .inl ⟨hw, fun w hs => by
    have c := hS w hs
    unfold execOp
    simp only [ho, hx]
    go_simp⟩
theorem y_l_hs (hw : Region.wanted o (yielded ops a.tmps) = true) (x : Operand) (ho : o.op = .load 42 x) (g p : Nat) (hx : a.eval x = .pointer (some ⟨g, p, none⟩)) (v : Value) (hS : ∀ w, S w → w.cell? ⟨g, p, none⟩ = some v) : YieldsIf Tryz.prog ops S o v a :=
  .inl ⟨hw, fun w hs => by
    have c := hS w hs
    unfold execOp
    simp only [ho, hx]
    go_simp⟩
theorem y_l_acc (hw : Region.wanted o (yielded ops a.tmps) = true) (x : Operand) (ho : o.op = .load 44 x) (g p : Nat) (hx : a.eval x = .pointer (some ⟨g, p, none⟩)) (v : Value) (hS : ∀ w, S w → w.cell? ⟨g, p, none⟩ = some v) : YieldsIf Tryz.prog ops S o v a :=
  .inl ⟨hw, fun w hs => by
    have c := hS w hs
    unfold execOp
    simp only [ho, hx]
    go_simp⟩
theorem y_l_lists (hw : Region.wanted o (yielded ops a.tmps) = true) (x : Operand) (ho : o.op = .load 62 x) (g p : Nat) (hx : a.eval x = .pointer (some ⟨g, p, none⟩)) (v : Value) (hS : ∀ w, S w → w.cell? ⟨g, p, none⟩ = some v) : YieldsIf Tryz.prog ops S o v a :=
  .inl ⟨hw, fun w hs => by
    have c := hS w hs
    unfold execOp
    simp only [ho, hx]
    go_simp⟩
theorem y_l_mb (hw : Region.wanted o (yielded ops a.tmps) = true) (x : Operand) (ho : o.op = .load 97 x) (g p : Nat) (hx : a.eval x = .pointer (some ⟨g, p, none⟩)) (v : Value) (hS : ∀ w, S w → w.cell? ⟨g, p, none⟩ = some v) : YieldsIf Tryz.prog ops S o v a :=
  .inl ⟨hw, fun w hs => by
    have c := hS w hs
    unfold execOp
    simp only [ho, hx]
    go_simp⟩
theorem y_l_mv (hw : Region.wanted o (yielded ops a.tmps) = true) (x : Operand) (ho : o.op = .load 84 x) (g p : Nat) (hx : a.eval x = .pointer (some ⟨g, p, none⟩)) (v : Value) (hS : ∀ w, S w → w.cell? ⟨g, p, none⟩ = some v) : YieldsIf Tryz.prog ops S o v a :=
  .inl ⟨hw, fun w hs => by
    have c := hS w hs
    unfold execOp
    simp only [ho, hx]
    go_simp⟩
theorem y_l_ms (hw : Region.wanted o (yielded ops a.tmps) = true) (x : Operand) (ho : o.op = .load 121 x) (g p : Nat) (hx : a.eval x = .pointer (some ⟨g, p, none⟩)) (v : Value) (hS : ∀ w, S w → w.cell? ⟨g, p, none⟩ = some v) : YieldsIf Tryz.prog ops S o v a :=
  .inl ⟨hw, fun w hs => by
    have c := hS w hs
    unfold execOp
    simp only [ho, hx]
    go_simp⟩
theorem y_l_blobs (hw : Region.wanted o (yielded ops a.tmps) = true) (x : Operand) (ho : o.op = .load 53 x) (g p : Nat) (hx : a.eval x = .pointer (some ⟨g, p, none⟩)) (v : Value) (hS : ∀ w, S w → w.cell? ⟨g, p, none⟩ = some v) : YieldsIf Tryz.prog ops S o v a :=
  .inl ⟨hw, fun w hs => by
    have c := hS w hs
    unfold execOp
    simp only [ho, hx]
    go_simp⟩
theorem y_s_Dev (hw : Region.wanted o (yielded ops a.tmps) = true) (x : Operand) (ho : o.op = .load 123 x) (g p : Nat) (hx : a.eval x = .pointer (some ⟨g, p, none⟩)) (cs : List Value) (hi : (Tryz.prog.info? 123).map (·.size) = some cs.length) (hS : ∀ w, S w → w.rangeAt g p cs) : YieldsIf Tryz.prog ops S o (.agg cs.toArray) a :=
  yieldsIf_load_mid hw _ _ ho g p hx cs _ hS Tryz.underlying123 rfl hi
theorem y_f_Dev0 (hw : Region.wanted o (yielded ops a.tmps) = true) (x : Operand) (ho : o.op = .fieldAddr 123 x 0) (g p : Nat) (hx : a.eval x = .pointer (some ⟨g, p, none⟩)) : YieldsIf Tryz.prog ops S o (.pointer (some ⟨g, p, none⟩)) a :=
  .inl ⟨hw, fun w hs => by
    unfold execOp
    simp only [ho, hx]
    go_simp⟩
theorem y_f_Dev1 (hw : Region.wanted o (yielded ops a.tmps) = true) (x : Operand) (ho : o.op = .fieldAddr 123 x 1) (g p : Nat) (hx : a.eval x = .pointer (some ⟨g, p, none⟩)) : YieldsIf Tryz.prog ops S o (.pointer (some ⟨g, p + 1, none⟩)) a :=
  .inl ⟨hw, fun w hs => by
    unfold execOp
    simp only [ho, hx]
    go_simp⟩
theorem y_f_Dev2 (hw : Region.wanted o (yielded ops a.tmps) = true) (x : Operand) (ho : o.op = .fieldAddr 123 x 2) (g p : Nat) (hx : a.eval x = .pointer (some ⟨g, p, none⟩)) : YieldsIf Tryz.prog ops S o (.pointer (some ⟨g, p + 2, none⟩)) a :=
  .inl ⟨hw, fun w hs => by
    unfold execOp
    simp only [ho, hx]
    go_simp⟩
theorem y_f_Dev3 (hw : Region.wanted o (yielded ops a.tmps) = true) (x : Operand) (ho : o.op = .fieldAddr 123 x 3) (g p : Nat) (hx : a.eval x = .pointer (some ⟨g, p, none⟩)) : YieldsIf Tryz.prog ops S o (.pointer (some ⟨g, p + 3, none⟩)) a :=
  .inl ⟨hw, fun w hs => by
    unfold execOp
    simp only [ho, hx]
    go_simp⟩
theorem y_f_Dev4 (hw : Region.wanted o (yielded ops a.tmps) = true) (x : Operand) (ho : o.op = .fieldAddr 123 x 4) (g p : Nat) (hx : a.eval x = .pointer (some ⟨g, p, none⟩)) : YieldsIf Tryz.prog ops S o (.pointer (some ⟨g, p + 4, none⟩)) a :=
  .inl ⟨hw, fun w hs => by
    unfold execOp
    simp only [ho, hx]
    go_simp⟩
theorem y_f_Dev5 (hw : Region.wanted o (yielded ops a.tmps) = true) (x : Operand) (ho : o.op = .fieldAddr 123 x 5) (g p : Nat) (hx : a.eval x = .pointer (some ⟨g, p, none⟩)) : YieldsIf Tryz.prog ops S o (.pointer (some ⟨g, p + 37, none⟩)) a :=
  .inl ⟨hw, fun w hs => by
    unfold execOp
    simp only [ho, hx]
    go_simp⟩
theorem y_f_Dev6 (hw : Region.wanted o (yielded ops a.tmps) = true) (x : Operand) (ho : o.op = .fieldAddr 123 x 6) (g p : Nat) (hx : a.eval x = .pointer (some ⟨g, p, none⟩)) : YieldsIf Tryz.prog ops S o (.pointer (some ⟨g, p + 38, none⟩)) a :=
  .inl ⟨hw, fun w hs => by
    unfold execOp
    simp only [ho, hx]
    go_simp⟩
theorem y_f_Dev7 (hw : Region.wanted o (yielded ops a.tmps) = true) (x : Operand) (ho : o.op = .fieldAddr 123 x 7) (g p : Nat) (hx : a.eval x = .pointer (some ⟨g, p, none⟩)) : YieldsIf Tryz.prog ops S o (.pointer (some ⟨g, p + 39, none⟩)) a :=
  .inl ⟨hw, fun w hs => by
    unfold execOp
    simp only [ho, hx]
    go_simp⟩
theorem y_f_Dev8 (hw : Region.wanted o (yielded ops a.tmps) = true) (x : Operand) (ho : o.op = .fieldAddr 123 x 8) (g p : Nat) (hx : a.eval x = .pointer (some ⟨g, p, none⟩)) : YieldsIf Tryz.prog ops S o (.pointer (some ⟨g, p + 40, none⟩)) a :=
  .inl ⟨hw, fun w hs => by
    unfold execOp
    simp only [ho, hx]
    go_simp⟩
theorem y_f_Dev9 (hw : Region.wanted o (yielded ops a.tmps) = true) (x : Operand) (ho : o.op = .fieldAddr 123 x 9) (g p : Nat) (hx : a.eval x = .pointer (some ⟨g, p, none⟩)) : YieldsIf Tryz.prog ops S o (.pointer (some ⟨g, p + 41, none⟩)) a :=
  .inl ⟨hw, fun w hs => by
    unfold execOp
    simp only [ho, hx]
    go_simp⟩
theorem y_f_Dev10 (hw : Region.wanted o (yielded ops a.tmps) = true) (x : Operand) (ho : o.op = .fieldAddr 123 x 10) (g p : Nat) (hx : a.eval x = .pointer (some ⟨g, p, none⟩)) : YieldsIf Tryz.prog ops S o (.pointer (some ⟨g, p + 42, none⟩)) a :=
  .inl ⟨hw, fun w hs => by
    unfold execOp
    simp only [ho, hx]
    go_simp⟩
theorem y_f_Dev11 (hw : Region.wanted o (yielded ops a.tmps) = true) (x : Operand) (ho : o.op = .fieldAddr 123 x 11) (g p : Nat) (hx : a.eval x = .pointer (some ⟨g, p, none⟩)) : YieldsIf Tryz.prog ops S o (.pointer (some ⟨g, p + 43, none⟩)) a :=
  .inl ⟨hw, fun w hs => by
    unfold execOp
    simp only [ho, hx]
    go_simp⟩
theorem y_s_Req (hw : Region.wanted o (yielded ops a.tmps) = true) (x : Operand) (ho : o.op = .load 164 x) (g p : Nat) (hx : a.eval x = .pointer (some ⟨g, p, none⟩)) (cs : List Value) (hi : (Tryz.prog.info? 164).map (·.size) = some cs.length) (hS : ∀ w, S w → w.rangeAt g p cs) : YieldsIf Tryz.prog ops S o (.agg cs.toArray) a :=
  yieldsIf_load_mid hw _ _ ho g p hx cs _ hS Tryz.underlying164 rfl hi
theorem y_f_Req0 (hw : Region.wanted o (yielded ops a.tmps) = true) (x : Operand) (ho : o.op = .fieldAddr 164 x 0) (g p : Nat) (hx : a.eval x = .pointer (some ⟨g, p, none⟩)) : YieldsIf Tryz.prog ops S o (.pointer (some ⟨g, p, none⟩)) a :=
  .inl ⟨hw, fun w hs => by
    unfold execOp
    simp only [ho, hx]
    go_simp⟩
theorem y_f_Req1 (hw : Region.wanted o (yielded ops a.tmps) = true) (x : Operand) (ho : o.op = .fieldAddr 164 x 1) (g p : Nat) (hx : a.eval x = .pointer (some ⟨g, p, none⟩)) : YieldsIf Tryz.prog ops S o (.pointer (some ⟨g, p + 1, none⟩)) a :=
  .inl ⟨hw, fun w hs => by
    unfold execOp
    simp only [ho, hx]
    go_simp⟩
theorem y_f_Req2 (hw : Region.wanted o (yielded ops a.tmps) = true) (x : Operand) (ho : o.op = .fieldAddr 164 x 2) (g p : Nat) (hx : a.eval x = .pointer (some ⟨g, p, none⟩)) : YieldsIf Tryz.prog ops S o (.pointer (some ⟨g, p + 33, none⟩)) a :=
  .inl ⟨hw, fun w hs => by
    unfold execOp
    simp only [ho, hx]
    go_simp⟩
theorem y_f_Req3 (hw : Region.wanted o (yielded ops a.tmps) = true) (x : Operand) (ho : o.op = .fieldAddr 164 x 3) (g p : Nat) (hx : a.eval x = .pointer (some ⟨g, p, none⟩)) : YieldsIf Tryz.prog ops S o (.pointer (some ⟨g, p + 34, none⟩)) a :=
  .inl ⟨hw, fun w hs => by
    unfold execOp
    simp only [ho, hx]
    go_simp⟩
theorem y_f_Req4 (hw : Region.wanted o (yielded ops a.tmps) = true) (x : Operand) (ho : o.op = .fieldAddr 164 x 4) (g p : Nat) (hx : a.eval x = .pointer (some ⟨g, p, none⟩)) : YieldsIf Tryz.prog ops S o (.pointer (some ⟨g, p + 35, none⟩)) a :=
  .inl ⟨hw, fun w hs => by
    unfold execOp
    simp only [ho, hx]
    go_simp⟩
theorem y_s_Ans (hw : Region.wanted o (yielded ops a.tmps) = true) (x : Operand) (ho : o.op = .load 161 x) (g p : Nat) (hx : a.eval x = .pointer (some ⟨g, p, none⟩)) (cs : List Value) (hi : (Tryz.prog.info? 161).map (·.size) = some cs.length) (hS : ∀ w, S w → w.rangeAt g p cs) : YieldsIf Tryz.prog ops S o (.agg cs.toArray) a :=
  yieldsIf_load_mid hw _ _ ho g p hx cs _ hS Tryz.underlying161 rfl hi
theorem y_f_Ans0 (hw : Region.wanted o (yielded ops a.tmps) = true) (x : Operand) (ho : o.op = .fieldAddr 161 x 0) (g p : Nat) (hx : a.eval x = .pointer (some ⟨g, p, none⟩)) : YieldsIf Tryz.prog ops S o (.pointer (some ⟨g, p, none⟩)) a :=
  .inl ⟨hw, fun w hs => by
    unfold execOp
    simp only [ho, hx]
    go_simp⟩
theorem y_f_Ans1 (hw : Region.wanted o (yielded ops a.tmps) = true) (x : Operand) (ho : o.op = .fieldAddr 161 x 1) (g p : Nat) (hx : a.eval x = .pointer (some ⟨g, p, none⟩)) : YieldsIf Tryz.prog ops S o (.pointer (some ⟨g, p + 1, none⟩)) a :=
  .inl ⟨hw, fun w hs => by
    unfold execOp
    simp only [ho, hx]
    go_simp⟩
theorem y_f_Ans2 (hw : Region.wanted o (yielded ops a.tmps) = true) (x : Operand) (ho : o.op = .fieldAddr 161 x 2) (g p : Nat) (hx : a.eval x = .pointer (some ⟨g, p, none⟩)) : YieldsIf Tryz.prog ops S o (.pointer (some ⟨g, p + 2, none⟩)) a :=
  .inl ⟨hw, fun w hs => by
    unfold execOp
    simp only [ho, hx]
    go_simp⟩
theorem y_f_Ans3 (hw : Region.wanted o (yielded ops a.tmps) = true) (x : Operand) (ho : o.op = .fieldAddr 161 x 3) (g p : Nat) (hx : a.eval x = .pointer (some ⟨g, p, none⟩)) : YieldsIf Tryz.prog ops S o (.pointer (some ⟨g, p + 35, none⟩)) a :=
  .inl ⟨hw, fun w hs => by
    unfold execOp
    simp only [ho, hx]
    go_simp⟩
theorem y_s_Sty (hw : Region.wanted o (yielded ops a.tmps) = true) (x : Operand) (ho : o.op = .load 154 x) (g p : Nat) (hx : a.eval x = .pointer (some ⟨g, p, none⟩)) (cs : List Value) (hi : (Tryz.prog.info? 154).map (·.size) = some cs.length) (hS : ∀ w, S w → w.rangeAt g p cs) : YieldsIf Tryz.prog ops S o (.agg cs.toArray) a :=
  yieldsIf_load_mid hw _ _ ho g p hx cs _ hS Tryz.underlying154 rfl hi
theorem y_f_Sty0 (hw : Region.wanted o (yielded ops a.tmps) = true) (x : Operand) (ho : o.op = .fieldAddr 154 x 0) (g p : Nat) (hx : a.eval x = .pointer (some ⟨g, p, none⟩)) : YieldsIf Tryz.prog ops S o (.pointer (some ⟨g, p, none⟩)) a :=
  .inl ⟨hw, fun w hs => by
    unfold execOp
    simp only [ho, hx]
    go_simp⟩
theorem y_f_Sty1 (hw : Region.wanted o (yielded ops a.tmps) = true) (x : Operand) (ho : o.op = .fieldAddr 154 x 1) (g p : Nat) (hx : a.eval x = .pointer (some ⟨g, p, none⟩)) : YieldsIf Tryz.prog ops S o (.pointer (some ⟨g, p + 1, none⟩)) a :=
  .inl ⟨hw, fun w hs => by
    unfold execOp
    simp only [ho, hx]
    go_simp⟩
theorem y_f_Sty2 (hw : Region.wanted o (yielded ops a.tmps) = true) (x : Operand) (ho : o.op = .fieldAddr 154 x 2) (g p : Nat) (hx : a.eval x = .pointer (some ⟨g, p, none⟩)) : YieldsIf Tryz.prog ops S o (.pointer (some ⟨g, p + 2, none⟩)) a :=
  .inl ⟨hw, fun w hs => by
    unfold execOp
    simp only [ho, hx]
    go_simp⟩
theorem y_s_Med (hw : Region.wanted o (yielded ops a.tmps) = true) (x : Operand) (ho : o.op = .load 68 x) (g p : Nat) (hx : a.eval x = .pointer (some ⟨g, p, none⟩)) (cs : List Value) (hi : (Tryz.prog.info? 68).map (·.size) = some cs.length) (hS : ∀ w, S w → w.rangeAt g p cs) : YieldsIf Tryz.prog ops S o (.agg cs.toArray) a :=
  yieldsIf_load_mid hw _ _ ho g p hx cs _ hS Tryz.underlying68 rfl hi
theorem y_f_Med0 (hw : Region.wanted o (yielded ops a.tmps) = true) (x : Operand) (ho : o.op = .fieldAddr 68 x 0) (g p : Nat) (hx : a.eval x = .pointer (some ⟨g, p, none⟩)) : YieldsIf Tryz.prog ops S o (.pointer (some ⟨g, p, none⟩)) a :=
  .inl ⟨hw, fun w hs => by
    unfold execOp
    simp only [ho, hx]
    go_simp⟩
theorem y_f_Med1 (hw : Region.wanted o (yielded ops a.tmps) = true) (x : Operand) (ho : o.op = .fieldAddr 68 x 1) (g p : Nat) (hx : a.eval x = .pointer (some ⟨g, p, none⟩)) : YieldsIf Tryz.prog ops S o (.pointer (some ⟨g, p + 1, none⟩)) a :=
  .inl ⟨hw, fun w hs => by
    unfold execOp
    simp only [ho, hx]
    go_simp⟩
theorem y_f_Med2 (hw : Region.wanted o (yielded ops a.tmps) = true) (x : Operand) (ho : o.op = .fieldAddr 68 x 2) (g p : Nat) (hx : a.eval x = .pointer (some ⟨g, p, none⟩)) : YieldsIf Tryz.prog ops S o (.pointer (some ⟨g, p + 2, none⟩)) a :=
  .inl ⟨hw, fun w hs => by
    unfold execOp
    simp only [ho, hx]
    go_simp⟩
theorem y_f_Med3 (hw : Region.wanted o (yielded ops a.tmps) = true) (x : Operand) (ho : o.op = .fieldAddr 68 x 3) (g p : Nat) (hx : a.eval x = .pointer (some ⟨g, p, none⟩)) : YieldsIf Tryz.prog ops S o (.pointer (some ⟨g, p + 3, none⟩)) a :=
  .inl ⟨hw, fun w hs => by
    unfold execOp
    simp only [ho, hx]
    go_simp⟩
theorem y_f_Med4 (hw : Region.wanted o (yielded ops a.tmps) = true) (x : Operand) (ho : o.op = .fieldAddr 68 x 4) (g p : Nat) (hx : a.eval x = .pointer (some ⟨g, p, none⟩)) : YieldsIf Tryz.prog ops S o (.pointer (some ⟨g, p + 4, none⟩)) a :=
  .inl ⟨hw, fun w hs => by
    unfold execOp
    simp only [ho, hx]
    go_simp⟩
theorem y_s_Blb (hw : Region.wanted o (yielded ops a.tmps) = true) (x : Operand) (ho : o.op = .load 58 x) (g p : Nat) (hx : a.eval x = .pointer (some ⟨g, p, none⟩)) (cs : List Value) (hi : (Tryz.prog.info? 58).map (·.size) = some cs.length) (hS : ∀ w, S w → w.rangeAt g p cs) : YieldsIf Tryz.prog ops S o (.agg cs.toArray) a :=
  yieldsIf_load_mid hw _ _ ho g p hx cs _ hS Tryz.underlying58 rfl hi
theorem y_f_Blb0 (hw : Region.wanted o (yielded ops a.tmps) = true) (x : Operand) (ho : o.op = .fieldAddr 58 x 0) (g p : Nat) (hx : a.eval x = .pointer (some ⟨g, p, none⟩)) : YieldsIf Tryz.prog ops S o (.pointer (some ⟨g, p, none⟩)) a :=
  .inl ⟨hw, fun w hs => by
    unfold execOp
    simp only [ho, hx]
    go_simp⟩
theorem y_f_Blb1 (hw : Region.wanted o (yielded ops a.tmps) = true) (x : Operand) (ho : o.op = .fieldAddr 58 x 1) (g p : Nat) (hx : a.eval x = .pointer (some ⟨g, p, none⟩)) : YieldsIf Tryz.prog ops S o (.pointer (some ⟨g, p + 32, none⟩)) a :=
  .inl ⟨hw, fun w hs => by
    unfold execOp
    simp only [ho, hx]
    go_simp⟩
theorem y_s_Reg (hw : Region.wanted o (yielded ops a.tmps) = true) (x : Operand) (ho : o.op = .load 66 x) (g p : Nat) (hx : a.eval x = .pointer (some ⟨g, p, none⟩)) (cs : List Value) (hi : (Tryz.prog.info? 66).map (·.size) = some cs.length) (hS : ∀ w, S w → w.rangeAt g p cs) : YieldsIf Tryz.prog ops S o (.agg cs.toArray) a :=
  yieldsIf_load_mid hw _ _ ho g p hx cs _ hS Tryz.underlying66 rfl hi
theorem y_f_Reg0 (hw : Region.wanted o (yielded ops a.tmps) = true) (x : Operand) (ho : o.op = .fieldAddr 66 x 0) (g p : Nat) (hx : a.eval x = .pointer (some ⟨g, p, none⟩)) : YieldsIf Tryz.prog ops S o (.pointer (some ⟨g, p, none⟩)) a :=
  .inl ⟨hw, fun w hs => by
    unfold execOp
    simp only [ho, hx]
    go_simp⟩
theorem y_f_Reg1 (hw : Region.wanted o (yielded ops a.tmps) = true) (x : Operand) (ho : o.op = .fieldAddr 66 x 1) (g p : Nat) (hx : a.eval x = .pointer (some ⟨g, p, none⟩)) : YieldsIf Tryz.prog ops S o (.pointer (some ⟨g, p + 1, none⟩)) a :=
  .inl ⟨hw, fun w hs => by
    unfold execOp
    simp only [ho, hx]
    go_simp⟩
theorem y_s_Cho (hw : Region.wanted o (yielded ops a.tmps) = true) (x : Operand) (ho : o.op = .load 152 x) (g p : Nat) (hx : a.eval x = .pointer (some ⟨g, p, none⟩)) (cs : List Value) (hi : (Tryz.prog.info? 152).map (·.size) = some cs.length) (hS : ∀ w, S w → w.rangeAt g p cs) : YieldsIf Tryz.prog ops S o (.agg cs.toArray) a :=
  yieldsIf_load_mid hw _ _ ho g p hx cs _ hS Tryz.underlying152 rfl hi
theorem y_f_Cho0 (hw : Region.wanted o (yielded ops a.tmps) = true) (x : Operand) (ho : o.op = .fieldAddr 152 x 0) (g p : Nat) (hx : a.eval x = .pointer (some ⟨g, p, none⟩)) : YieldsIf Tryz.prog ops S o (.pointer (some ⟨g, p, none⟩)) a :=
  .inl ⟨hw, fun w hs => by
    unfold execOp
    simp only [ho, hx]
    go_simp⟩
theorem y_f_Cho1 (hw : Region.wanted o (yielded ops a.tmps) = true) (x : Operand) (ho : o.op = .fieldAddr 152 x 1) (g p : Nat) (hx : a.eval x = .pointer (some ⟨g, p, none⟩)) : YieldsIf Tryz.prog ops S o (.pointer (some ⟨g, p + 1, none⟩)) a :=
  .inl ⟨hw, fun w hs => by
    unfold execOp
    simp only [ho, hx]
    go_simp⟩
theorem y_f_Cho2 (hw : Region.wanted o (yielded ops a.tmps) = true) (x : Operand) (ho : o.op = .fieldAddr 152 x 2) (g p : Nat) (hx : a.eval x = .pointer (some ⟨g, p, none⟩)) : YieldsIf Tryz.prog ops S o (.pointer (some ⟨g, p + 2, none⟩)) a :=
  .inl ⟨hw, fun w hs => by
    unfold execOp
    simp only [ho, hx]
    go_simp⟩
theorem y_s_Hash (hw : Region.wanted o (yielded ops a.tmps) = true) (x : Operand) (ho : o.op = .load 38 x) (g p : Nat) (hx : a.eval x = .pointer (some ⟨g, p, none⟩)) (k : List Nat) (hk : k.length = 32) (hS : ∀ w, S w → w.rangeAt g p (bv k)) : YieldsIf Tryz.prog ops S o (.agg (bv k).toArray) a :=
  yieldsIf_load_mid hw _ _ ho g p hx (bv k) _ hS Tryz.underlying38 rfl (by rw [bv_len, hk]; exact i33)
theorem r_stS {Q : Exit → Act → World → Prop} {w : World} {K : Act → World → Prop} {E : Prop} (hw : Region.wanted o (yielded ops a.tmps) = true) (T : TypeId) (x y : Operand) (ho : o.op = .store T x y) (b : Nat) (cs old : List Value) (hi : (Tryz.prog.info? T).map (·.size) = some cs.length) (hl : cs.length = old.length) (h1 : cs.toArray.all (·.oneCell') = true) (hb : w.heap[b]? = some (.cells old.toArray T (0, 0)))
    (hx : a.eval x = .pointer (some ⟨b, 0, none⟩)) (hy : a.eval y = .agg cs.toArray) (h : K (a.put o.dst undef) (w.setRow b cs.toArray)) :
    if Region.wanted o (yielded ops a.tmps) = true then Oper.wp Tryz.prog o a w K Q else E := by
  rw [if_pos hw]
  exact wp_store_row T x y ho b cs.toArray hx hy T old.toArray hb (by rw [List.size_toArray]; exact hi) (by rw [List.size_toArray, List.size_toArray, hl]) h1 h
end
end Go.Proofs.YtpmdjopojcgpeaaGreatDoor
