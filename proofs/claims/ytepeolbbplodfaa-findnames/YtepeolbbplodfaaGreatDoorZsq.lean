import Derived.Test.YtepeolbbplodfaaGreatDoorMaq
import Derived.Great.BuildSlice
import Derived.Laws.AppendOwnNone
/-
  Operations of a region that draws its order, each by a law of its own (gen_fys.py).
-/
namespace Go.Proofs.YtepeolbbplodfaaGreatDoor.Z
open Go.RowKit

theorem fold_set (off : Nat) (xs : List Value) : ∀ (k : Nat) (cs : Array Value), off + k + xs.length ≤ cs.size →
    ((xs.zipIdx k).foldl (fun (cs : Array Value) (p : Value × Nat) => cs.setIfInBounds (off + p.2) p.1) cs).size = cs.size ∧
    ∀ i, ((xs.zipIdx k).foldl (fun (cs : Array Value) (p : Value × Nat) => cs.setIfInBounds (off + p.2) p.1) cs)[i]? = if off + k ≤ i ∧ i < off + k + xs.length then xs[i - (off + k)]? else cs[i]? := by
  induction xs with
  | nil => intro k cs _; exact ⟨rfl, fun i => by rw [if_neg (by simp)]; rfl⟩
  | cons x t ih =>
    intro k cs h
    simp only [List.length_cons] at h ⊢
    rw [List.zipIdx_cons, List.foldl_cons]
    obtain ⟨h1, h2⟩ := ih (k + 1) (cs.setIfInBounds (off + k) x) (by rw [Array.size_setIfInBounds]; omega)
    refine ⟨by rw [h1, Array.size_setIfInBounds], fun i => ?_⟩
    rw [h2 i]
    by_cases q : off + (k + 1) ≤ i ∧ i < off + (k + 1) + t.length
    · rw [if_pos q, if_pos (by omega), show i - (off + k) = (i - (off + (k + 1))) + 1 by omega, List.getElem?_cons_succ]
    · rw [if_neg q, Array.getElem?_setIfInBounds]
      by_cases q2 : off + k = i
      · rw [if_pos q2, if_pos (by omega), if_pos (by omega), q2, Nat.sub_self]
        rfl
      · rw [if_neg q2, if_neg (by omega)]
theorem fill_step {place : Nat → Option (Nat × Nat)} {cells : Array Value} {i off size : Nat} {v : Value} {rest : List (Nat × Value)} (hp : place i = some (off, size)) (hs : v.cells.size = size) (hl : off + size ≤ cells.size) :
    Instr.fill place cells ((i, v) :: rest) = Instr.fill place (v.cells.zipIdx.foldl (fun cs (c, j) => cs.setIfInBounds (off + j) c) cells) rest := by
  rw [Instr.fill, hp]
  simp only [hs]
  rw [if_neg (by simp; omega)]
/-- cells laid over others, as a list -/
theorem fold_list (off : Nat) (a x x' b : List Value) (ha : a.length = off) (hx : x'.length = x.length) :
    (x'.toArray.zipIdx.foldl (fun (cs : Array Value) (p : Value × Nat) => cs.setIfInBounds (off + p.2) p.1) (a ++ (x ++ b)).toArray) = (a ++ (x' ++ b)).toArray := by
  have key := fold_set off x' 0 (a ++ (x ++ b)).toArray (by simp; omega)
  have e : x'.toArray.zipIdx.foldl (fun (cs : Array Value) (p : Value × Nat) => cs.setIfInBounds (off + p.2) p.1) (a ++ (x ++ b)).toArray = (x'.zipIdx 0).foldl (fun (cs : Array Value) (p : Value × Nat) => cs.setIfInBounds (off + p.2) p.1) (a ++ (x ++ b)).toArray := by
    rw [← Array.foldl_toList]
    simp
  rw [e]
  apply Array.ext_getElem?
  intro i
  rw [key.2 i]
  simp only [List.getElem?_toArray, Nat.add_zero]
  by_cases h1 : off ≤ i ∧ i < off + x'.length
  · rw [if_pos h1, List.getElem?_append_right (by omega), List.getElem?_append_left (by omega), ha]
  · rw [if_neg h1]
    by_cases h2 : i < off
    · rw [List.getElem?_append_left (by omega), List.getElem?_append_left (by omega)]
    · rw [List.getElem?_append_right (by omega), List.getElem?_append_right (by omega), List.getElem?_append_right (by omega), List.getElem?_append_right (by omega), hx]

section
variable {ops : Array Oper} {S : World → Prop} {o : Oper} {a : Act}
theorem y_move (hw : Region.wanted o (yielded ops a.tmps) = true) (x : Operand) (ho : o.op = .move x) (v : Value) (hx : a.eval x = v) : YieldsIf Tryz.prog ops S o v a :=
  .inl ⟨hw, fun w hs => by
    unfold execOp
    simp only [ho, hx]
    rfl⟩
theorem y_assign (hw : Region.wanted o (yielded ops a.tmps) = true) (x : Operand) (ho : o.op = .assign x) (v : Value) (hx : a.eval x = v) : YieldsIf Tryz.prog ops S o v a :=
  .inl ⟨hw, fun w hs => by
    unfold execOp
    simp only [ho, hx]
    rfl⟩
theorem y_no (hw : Region.wanted o (yielded ops a.tmps) = false) : YieldsIf Tryz.prog ops S o undef a := .inr ⟨hw, rfl⟩
theorem y_pick_t (hw : Region.wanted o (yielded ops a.tmps) = true) (x y z : Operand) (ho : o.op = .pick x y z) (v : Value) (hx : a.eval x = .bool true) (hy : a.eval y = v) : YieldsIf Tryz.prog ops S o v a :=
  .inl ⟨hw, fun w hs => by
    unfold execOp
    simp only [ho, hx, hy]
    go_simp⟩
theorem y_pick_f (hw : Region.wanted o (yielded ops a.tmps) = true) (x y z : Operand) (ho : o.op = .pick x y z) (v : Value) (hx : a.eval x = .bool false) (hz : a.eval z = v) : YieldsIf Tryz.prog ops S o v a :=
  .inl ⟨hw, fun w hs => by
    unfold execOp
    simp only [ho, hx, hz]
    go_simp⟩
theorem y_not (hw : Region.wanted o (yielded ops a.tmps) = true) (x : Operand) (ho : o.op = .unOp .not 4 x) (b : Bool) (hx : a.eval x = .bool b) : YieldsIf Tryz.prog ops S o (.bool (!b)) a :=
  .inl ⟨hw, fun w hs => by
    unfold execOp
    simp only [ho, hx]
    go_simp⟩
theorem y_ext (hw : Region.wanted o (yielded ops a.tmps) = true) (x : Operand) (i : Nat) (ho : o.op = .extract x i) (vs : Array Value) (v : Value) (hx : a.eval x = .tuple vs) (hv : vs[i]? = some v) : YieldsIf Tryz.prog ops S o v a :=
  .inl ⟨hw, fun w hs => by
    unfold execOp
    simp only [ho, hx, Instr.extract, hv]
    rfl⟩
theorem y_nil (hw : Region.wanted o (yielded ops a.tmps) = true) (x : Operand) (ho : o.op = .nilCheck x) (p : Addr) (hx : a.eval x = .pointer (some p)) : YieldsIf Tryz.prog ops S o (.pointer (some p)) a :=
  .inl ⟨hw, fun w hs => by
    unfold execOp
    simp only [ho, hx]
    go_simp⟩
theorem y_bd (hw : Region.wanted o (yielded ops a.tmps) = true) (t : TypeId) (L : List (Nat × Operand)) (ho : o.op = .build t L.toArray) (cells : Array Value)
    (hb : Tryz.prog.built t (L.map fun (i, x) => (i, a.eval x)) = some cells) : YieldsIf Tryz.prog ops S o (.agg cells) a :=
  .inl ⟨hw, fun w _ => by
    have hb' : Tryz.prog.built t (L.toArray.map fun (i, x) => (i, a.eval x)).toList = some cells := by simp only [List.map_toArray]; exact hb
    unfold execOp
    simp only [ho, Sem.run_bind, run_build w t _ cells hb', Result.andThen_ok]
    rfl⟩
theorem y_l_int (hw : Region.wanted o (yielded ops a.tmps) = true) (x : Operand) (ho : o.op = .load 3 x) (g p : Nat) (hx : a.eval x = .pointer (some ⟨g, p, none⟩)) (v : Value) (hS : ∀ w, S w → w.cell? ⟨g, p, none⟩ = some v) : YieldsIf Tryz.prog ops S o v a :=
  .inl ⟨hw, fun w hs => by
    have c := hS w hs
    unfold execOp
    simp only [ho, hx]
    go_simp⟩
theorem y_l_bool (hw : Region.wanted o (yielded ops a.tmps) = true) (x : Operand) (ho : o.op = .load 4 x) (g p : Nat) (hx : a.eval x = .pointer (some ⟨g, p, none⟩)) (v : Value) (hS : ∀ w, S w → w.cell? ⟨g, p, none⟩ = some v) : YieldsIf Tryz.prog ops S o v a :=
  .inl ⟨hw, fun w hs => by
    have c := hS w hs
    unfold execOp
    simp only [ho, hx]
    go_simp⟩
theorem y_l_Errno (hw : Region.wanted o (yielded ops a.tmps) = true) (x : Operand) (ho : o.op = .load 34 x) (g p : Nat) (hx : a.eval x = .pointer (some ⟨g, p, none⟩)) (v : Value) (hS : ∀ w, S w → w.cell? ⟨g, p, none⟩ = some v) : YieldsIf Tryz.prog ops S o v a :=
  .inl ⟨hw, fun w hs => by
    have c := hS w hs
    unfold execOp
    simp only [ho, hx]
    go_simp⟩
theorem y_l_book (hw : Region.wanted o (yielded ops a.tmps) = true) (x : Operand) (ho : o.op = .load 22 x) (g p : Nat) (hx : a.eval x = .pointer (some ⟨g, p, none⟩)) (v : Value) (hS : ∀ w, S w → w.cell? ⟨g, p, none⟩ = some v) : YieldsIf Tryz.prog ops S o v a :=
  .inl ⟨hw, fun w hs => by
    have c := hS w hs
    unfold execOp
    simp only [ho, hx]
    go_simp⟩
theorem y_l_src (hw : Region.wanted o (yielded ops a.tmps) = true) (x : Operand) (ho : o.op = .load 76 x) (g p : Nat) (hx : a.eval x = .pointer (some ⟨g, p, none⟩)) (v : Value) (hS : ∀ w, S w → w.cell? ⟨g, p, none⟩ = some v) : YieldsIf Tryz.prog ops S o v a :=
  .inl ⟨hw, fun w hs => by
    have c := hS w hs
    unfold execOp
    simp only [ho, hx]
    go_simp⟩
theorem y_l_fn (hw : Region.wanted o (yielded ops a.tmps) = true) (x : Operand) (ho : o.op = .load 67 x) (g p : Nat) (hx : a.eval x = .pointer (some ⟨g, p, none⟩)) (v : Value) (hS : ∀ w, S w → w.cell? ⟨g, p, none⟩ = some v) : YieldsIf Tryz.prog ops S o v a :=
  .inl ⟨hw, fun w hs => by
    have c := hS w hs
    unfold execOp
    simp only [ho, hx]
    go_simp⟩
theorem y_l_byt (hw : Region.wanted o (yielded ops a.tmps) = true) (x : Operand) (ho : o.op = .load 33 x) (g p : Nat) (hx : a.eval x = .pointer (some ⟨g, p, none⟩)) (v : Value) (hS : ∀ w, S w → w.cell? ⟨g, p, none⟩ = some v) : YieldsIf Tryz.prog ops S o v a :=
  .inl ⟨hw, fun w hs => by
    have c := hS w hs
    unfold execOp
    simp only [ho, hx]
    go_simp⟩
theorem y_l_hs (hw : Region.wanted o (yielded ops a.tmps) = true) (x : Operand) (ho : o.op = .load 26 x) (g p : Nat) (hx : a.eval x = .pointer (some ⟨g, p, none⟩)) (v : Value) (hS : ∀ w, S w → w.cell? ⟨g, p, none⟩ = some v) : YieldsIf Tryz.prog ops S o v a :=
  .inl ⟨hw, fun w hs => by
    have c := hS w hs
    unfold execOp
    simp only [ho, hx]
    go_simp⟩
theorem y_l_lists (hw : Region.wanted o (yielded ops a.tmps) = true) (x : Operand) (ho : o.op = .load 27 x) (g p : Nat) (hx : a.eval x = .pointer (some ⟨g, p, none⟩)) (v : Value) (hS : ∀ w, S w → w.cell? ⟨g, p, none⟩ = some v) : YieldsIf Tryz.prog ops S o v a :=
  .inl ⟨hw, fun w hs => by
    have c := hS w hs
    unfold execOp
    simp only [ho, hx]
    go_simp⟩
theorem y_l_tolds (hw : Region.wanted o (yielded ops a.tmps) = true) (x : Operand) (ho : o.op = .load 25 x) (g p : Nat) (hx : a.eval x = .pointer (some ⟨g, p, none⟩)) (v : Value) (hS : ∀ w, S w → w.cell? ⟨g, p, none⟩ = some v) : YieldsIf Tryz.prog ops S o v a :=
  .inl ⟨hw, fun w hs => by
    have c := hS w hs
    unfold execOp
    simp only [ho, hx]
    go_simp⟩
theorem y_l_blobs (hw : Region.wanted o (yielded ops a.tmps) = true) (x : Operand) (ho : o.op = .load 43 x) (g p : Nat) (hx : a.eval x = .pointer (some ⟨g, p, none⟩)) (v : Value) (hS : ∀ w, S w → w.cell? ⟨g, p, none⟩ = some v) : YieldsIf Tryz.prog ops S o v a :=
  .inl ⟨hw, fun w hs => by
    have c := hS w hs
    unfold execOp
    simp only [ho, hx]
    go_simp⟩
theorem y_l_entries (hw : Region.wanted o (yielded ops a.tmps) = true) (x : Operand) (ho : o.op = .load 40 x) (g p : Nat) (hx : a.eval x = .pointer (some ⟨g, p, none⟩)) (v : Value) (hS : ∀ w, S w → w.cell? ⟨g, p, none⟩ = some v) : YieldsIf Tryz.prog ops S o v a :=
  .inl ⟨hw, fun w hs => by
    have c := hS w hs
    unfold execOp
    simp only [ho, hx]
    go_simp⟩
theorem y_l_rows (hw : Region.wanted o (yielded ops a.tmps) = true) (x : Operand) (ho : o.op = .load 103 x) (g p : Nat) (hx : a.eval x = .pointer (some ⟨g, p, none⟩)) (v : Value) (hS : ∀ w, S w → w.cell? ⟨g, p, none⟩ = some v) : YieldsIf Tryz.prog ops S o v a :=
  .inl ⟨hw, fun w hs => by
    have c := hS w hs
    unfold execOp
    simp only [ho, hx]
    go_simp⟩
theorem y_l_u8 (hw : Region.wanted o (yielded ops a.tmps) = true) (x : Operand) (ho : o.op = .load 5 x) (g p : Nat) (hx : a.eval x = .pointer (some ⟨g, p, none⟩)) (v : Value) (hS : ∀ w, S w → w.cell? ⟨g, p, none⟩ = some v) : YieldsIf Tryz.prog ops S o v a :=
  .inl ⟨hw, fun w hs => by
    have c := hS w hs
    unfold execOp
    simp only [ho, hx]
    go_simp⟩
theorem y_s_Wy (hw : Region.wanted o (yielded ops a.tmps) = true) (x : Operand) (ho : o.op = .load 117 x) (g p : Nat) (hx : a.eval x = .pointer (some ⟨g, p, none⟩)) (cs : List Value) (hi : (Tryz.prog.info? 117).map (·.size) = some cs.length) (hS : ∀ w, S w → w.rangeAt g p cs) : YieldsIf Tryz.prog ops S o (.agg cs.toArray) a :=
  yieldsIf_load_mid hw _ _ ho g p hx cs _ hS Tryz.underlying117 rfl hi
theorem y_f_Wy0 (hw : Region.wanted o (yielded ops a.tmps) = true) (x : Operand) (ho : o.op = .fieldAddr 117 x 0) (g p : Nat) (hx : a.eval x = .pointer (some ⟨g, p, none⟩)) : YieldsIf Tryz.prog ops S o (.pointer (some ⟨g, p, none⟩)) a :=
  .inl ⟨hw, fun w hs => by
    unfold execOp
    simp only [ho, hx]
    go_simp⟩
theorem y_f_Wy1 (hw : Region.wanted o (yielded ops a.tmps) = true) (x : Operand) (ho : o.op = .fieldAddr 117 x 1) (g p : Nat) (hx : a.eval x = .pointer (some ⟨g, p, none⟩)) : YieldsIf Tryz.prog ops S o (.pointer (some ⟨g, p + 1, none⟩)) a :=
  .inl ⟨hw, fun w hs => by
    unfold execOp
    simp only [ho, hx]
    go_simp⟩
theorem y_f_Wy2 (hw : Region.wanted o (yielded ops a.tmps) = true) (x : Operand) (ho : o.op = .fieldAddr 117 x 2) (g p : Nat) (hx : a.eval x = .pointer (some ⟨g, p, none⟩)) : YieldsIf Tryz.prog ops S o (.pointer (some ⟨g, p + 2, none⟩)) a :=
  .inl ⟨hw, fun w hs => by
    unfold execOp
    simp only [ho, hx]
    go_simp⟩
theorem y_f_Wy3 (hw : Region.wanted o (yielded ops a.tmps) = true) (x : Operand) (ho : o.op = .fieldAddr 117 x 3) (g p : Nat) (hx : a.eval x = .pointer (some ⟨g, p, none⟩)) : YieldsIf Tryz.prog ops S o (.pointer (some ⟨g, p + 3, none⟩)) a :=
  .inl ⟨hw, fun w hs => by
    unfold execOp
    simp only [ho, hx]
    go_simp⟩
theorem y_f_Wy4 (hw : Region.wanted o (yielded ops a.tmps) = true) (x : Operand) (ho : o.op = .fieldAddr 117 x 4) (g p : Nat) (hx : a.eval x = .pointer (some ⟨g, p, none⟩)) : YieldsIf Tryz.prog ops S o (.pointer (some ⟨g, p + 4, none⟩)) a :=
  .inl ⟨hw, fun w hs => by
    unfold execOp
    simp only [ho, hx]
    go_simp⟩
theorem y_s_Src (hw : Region.wanted o (yielded ops a.tmps) = true) (x : Operand) (ho : o.op = .load 29 x) (g p : Nat) (hx : a.eval x = .pointer (some ⟨g, p, none⟩)) (cs : List Value) (hi : (Tryz.prog.info? 29).map (·.size) = some cs.length) (hS : ∀ w, S w → w.rangeAt g p cs) : YieldsIf Tryz.prog ops S o (.agg cs.toArray) a :=
  yieldsIf_load_mid hw _ _ ho g p hx cs _ hS Tryz.underlying29 rfl hi
theorem y_f_Src0 (hw : Region.wanted o (yielded ops a.tmps) = true) (x : Operand) (ho : o.op = .fieldAddr 29 x 0) (g p : Nat) (hx : a.eval x = .pointer (some ⟨g, p, none⟩)) : YieldsIf Tryz.prog ops S o (.pointer (some ⟨g, p, none⟩)) a :=
  .inl ⟨hw, fun w hs => by
    unfold execOp
    simp only [ho, hx]
    go_simp⟩
theorem y_f_Src1 (hw : Region.wanted o (yielded ops a.tmps) = true) (x : Operand) (ho : o.op = .fieldAddr 29 x 1) (g p : Nat) (hx : a.eval x = .pointer (some ⟨g, p, none⟩)) : YieldsIf Tryz.prog ops S o (.pointer (some ⟨g, p + 1, none⟩)) a :=
  .inl ⟨hw, fun w hs => by
    unfold execOp
    simp only [ho, hx]
    go_simp⟩
theorem y_f_Src2 (hw : Region.wanted o (yielded ops a.tmps) = true) (x : Operand) (ho : o.op = .fieldAddr 29 x 2) (g p : Nat) (hx : a.eval x = .pointer (some ⟨g, p, none⟩)) : YieldsIf Tryz.prog ops S o (.pointer (some ⟨g, p + 2, none⟩)) a :=
  .inl ⟨hw, fun w hs => by
    unfold execOp
    simp only [ho, hx]
    go_simp⟩
theorem y_f_Src3 (hw : Region.wanted o (yielded ops a.tmps) = true) (x : Operand) (ho : o.op = .fieldAddr 29 x 3) (g p : Nat) (hx : a.eval x = .pointer (some ⟨g, p, none⟩)) : YieldsIf Tryz.prog ops S o (.pointer (some ⟨g, p + 3, none⟩)) a :=
  .inl ⟨hw, fun w hs => by
    unfold execOp
    simp only [ho, hx]
    go_simp⟩
theorem y_s_Told (hw : Region.wanted o (yielded ops a.tmps) = true) (x : Operand) (ho : o.op = .load 56 x) (g p : Nat) (hx : a.eval x = .pointer (some ⟨g, p, none⟩)) (cs : List Value) (hi : (Tryz.prog.info? 56).map (·.size) = some cs.length) (hS : ∀ w, S w → w.rangeAt g p cs) : YieldsIf Tryz.prog ops S o (.agg cs.toArray) a :=
  yieldsIf_load_mid hw _ _ ho g p hx cs _ hS Tryz.underlying56 rfl hi
theorem y_f_Told0 (hw : Region.wanted o (yielded ops a.tmps) = true) (x : Operand) (ho : o.op = .fieldAddr 56 x 0) (g p : Nat) (hx : a.eval x = .pointer (some ⟨g, p, none⟩)) : YieldsIf Tryz.prog ops S o (.pointer (some ⟨g, p, none⟩)) a :=
  .inl ⟨hw, fun w hs => by
    unfold execOp
    simp only [ho, hx]
    go_simp⟩
theorem y_f_Told1 (hw : Region.wanted o (yielded ops a.tmps) = true) (x : Operand) (ho : o.op = .fieldAddr 56 x 1) (g p : Nat) (hx : a.eval x = .pointer (some ⟨g, p, none⟩)) : YieldsIf Tryz.prog ops S o (.pointer (some ⟨g, p + 32, none⟩)) a :=
  .inl ⟨hw, fun w hs => by
    unfold execOp
    simp only [ho, hx]
    go_simp⟩
theorem y_f_Told2 (hw : Region.wanted o (yielded ops a.tmps) = true) (x : Operand) (ho : o.op = .fieldAddr 56 x 2) (g p : Nat) (hx : a.eval x = .pointer (some ⟨g, p, none⟩)) : YieldsIf Tryz.prog ops S o (.pointer (some ⟨g, p + 33, none⟩)) a :=
  .inl ⟨hw, fun w hs => by
    unfold execOp
    simp only [ho, hx]
    go_simp⟩
theorem y_s_Blb (hw : Region.wanted o (yielded ops a.tmps) = true) (x : Operand) (ho : o.op = .load 79 x) (g p : Nat) (hx : a.eval x = .pointer (some ⟨g, p, none⟩)) (cs : List Value) (hi : (Tryz.prog.info? 79).map (·.size) = some cs.length) (hS : ∀ w, S w → w.rangeAt g p cs) : YieldsIf Tryz.prog ops S o (.agg cs.toArray) a :=
  yieldsIf_load_mid hw _ _ ho g p hx cs _ hS Tryz.underlying79 rfl hi
theorem y_f_Blb0 (hw : Region.wanted o (yielded ops a.tmps) = true) (x : Operand) (ho : o.op = .fieldAddr 79 x 0) (g p : Nat) (hx : a.eval x = .pointer (some ⟨g, p, none⟩)) : YieldsIf Tryz.prog ops S o (.pointer (some ⟨g, p, none⟩)) a :=
  .inl ⟨hw, fun w hs => by
    unfold execOp
    simp only [ho, hx]
    go_simp⟩
theorem y_f_Blb1 (hw : Region.wanted o (yielded ops a.tmps) = true) (x : Operand) (ho : o.op = .fieldAddr 79 x 1) (g p : Nat) (hx : a.eval x = .pointer (some ⟨g, p, none⟩)) : YieldsIf Tryz.prog ops S o (.pointer (some ⟨g, p + 32, none⟩)) a :=
  .inl ⟨hw, fun w hs => by
    unfold execOp
    simp only [ho, hx]
    go_simp⟩
theorem y_s_Ent (hw : Region.wanted o (yielded ops a.tmps) = true) (x : Operand) (ho : o.op = .load 47 x) (g p : Nat) (hx : a.eval x = .pointer (some ⟨g, p, none⟩)) (cs : List Value) (hi : (Tryz.prog.info? 47).map (·.size) = some cs.length) (hS : ∀ w, S w → w.rangeAt g p cs) : YieldsIf Tryz.prog ops S o (.agg cs.toArray) a :=
  yieldsIf_load_mid hw _ _ ho g p hx cs _ hS Tryz.underlying47 rfl hi
theorem y_f_Ent0 (hw : Region.wanted o (yielded ops a.tmps) = true) (x : Operand) (ho : o.op = .fieldAddr 47 x 0) (g p : Nat) (hx : a.eval x = .pointer (some ⟨g, p, none⟩)) : YieldsIf Tryz.prog ops S o (.pointer (some ⟨g, p, none⟩)) a :=
  .inl ⟨hw, fun w hs => by
    unfold execOp
    simp only [ho, hx]
    go_simp⟩
theorem y_f_Ent1 (hw : Region.wanted o (yielded ops a.tmps) = true) (x : Operand) (ho : o.op = .fieldAddr 47 x 1) (g p : Nat) (hx : a.eval x = .pointer (some ⟨g, p, none⟩)) : YieldsIf Tryz.prog ops S o (.pointer (some ⟨g, p + 1, none⟩)) a :=
  .inl ⟨hw, fun w hs => by
    unfold execOp
    simp only [ho, hx]
    go_simp⟩
theorem y_s_Trie (hw : Region.wanted o (yielded ops a.tmps) = true) (x : Operand) (ho : o.op = .load 81 x) (g p : Nat) (hx : a.eval x = .pointer (some ⟨g, p, none⟩)) (cs : List Value) (hi : (Tryz.prog.info? 81).map (·.size) = some cs.length) (hS : ∀ w, S w → w.rangeAt g p cs) : YieldsIf Tryz.prog ops S o (.agg cs.toArray) a :=
  yieldsIf_load_mid hw _ _ ho g p hx cs _ hS Tryz.underlying81 rfl hi
theorem y_f_Trie0 (hw : Region.wanted o (yielded ops a.tmps) = true) (x : Operand) (ho : o.op = .fieldAddr 81 x 0) (g p : Nat) (hx : a.eval x = .pointer (some ⟨g, p, none⟩)) : YieldsIf Tryz.prog ops S o (.pointer (some ⟨g, p, none⟩)) a :=
  .inl ⟨hw, fun w hs => by
    unfold execOp
    simp only [ho, hx]
    go_simp⟩
theorem y_f_Trie1 (hw : Region.wanted o (yielded ops a.tmps) = true) (x : Operand) (ho : o.op = .fieldAddr 81 x 1) (g p : Nat) (hx : a.eval x = .pointer (some ⟨g, p, none⟩)) : YieldsIf Tryz.prog ops S o (.pointer (some ⟨g, p + 1, none⟩)) a :=
  .inl ⟨hw, fun w hs => by
    unfold execOp
    simp only [ho, hx]
    go_simp⟩
theorem y_f_Trie2 (hw : Region.wanted o (yielded ops a.tmps) = true) (x : Operand) (ho : o.op = .fieldAddr 81 x 2) (g p : Nat) (hx : a.eval x = .pointer (some ⟨g, p, none⟩)) : YieldsIf Tryz.prog ops S o (.pointer (some ⟨g, p + 2, none⟩)) a :=
  .inl ⟨hw, fun w hs => by
    unfold execOp
    simp only [ho, hx]
    go_simp⟩
theorem y_f_Trie3 (hw : Region.wanted o (yielded ops a.tmps) = true) (x : Operand) (ho : o.op = .fieldAddr 81 x 3) (g p : Nat) (hx : a.eval x = .pointer (some ⟨g, p, none⟩)) : YieldsIf Tryz.prog ops S o (.pointer (some ⟨g, p + 3, none⟩)) a :=
  .inl ⟨hw, fun w hs => by
    unfold execOp
    simp only [ho, hx]
    go_simp⟩
theorem y_f_Trie4 (hw : Region.wanted o (yielded ops a.tmps) = true) (x : Operand) (ho : o.op = .fieldAddr 81 x 4) (g p : Nat) (hx : a.eval x = .pointer (some ⟨g, p, none⟩)) : YieldsIf Tryz.prog ops S o (.pointer (some ⟨g, p + 4, none⟩)) a :=
  .inl ⟨hw, fun w hs => by
    unfold execOp
    simp only [ho, hx]
    go_simp⟩
theorem y_s_Row (hw : Region.wanted o (yielded ops a.tmps) = true) (x : Operand) (ho : o.op = .load 105 x) (g p : Nat) (hx : a.eval x = .pointer (some ⟨g, p, none⟩)) (cs : List Value) (hi : (Tryz.prog.info? 105).map (·.size) = some cs.length) (hS : ∀ w, S w → w.rangeAt g p cs) : YieldsIf Tryz.prog ops S o (.agg cs.toArray) a :=
  yieldsIf_load_mid hw _ _ ho g p hx cs _ hS Tryz.underlying105 rfl hi
theorem y_f_Row0 (hw : Region.wanted o (yielded ops a.tmps) = true) (x : Operand) (ho : o.op = .fieldAddr 105 x 0) (g p : Nat) (hx : a.eval x = .pointer (some ⟨g, p, none⟩)) : YieldsIf Tryz.prog ops S o (.pointer (some ⟨g, p, none⟩)) a :=
  .inl ⟨hw, fun w hs => by
    unfold execOp
    simp only [ho, hx]
    go_simp⟩
theorem y_f_Row1 (hw : Region.wanted o (yielded ops a.tmps) = true) (x : Operand) (ho : o.op = .fieldAddr 105 x 1) (g p : Nat) (hx : a.eval x = .pointer (some ⟨g, p, none⟩)) : YieldsIf Tryz.prog ops S o (.pointer (some ⟨g, p + 1, none⟩)) a :=
  .inl ⟨hw, fun w hs => by
    unfold execOp
    simp only [ho, hx]
    go_simp⟩
theorem y_s_RWay (hw : Region.wanted o (yielded ops a.tmps) = true) (x : Operand) (ho : o.op = .load 63 x) (g p : Nat) (hx : a.eval x = .pointer (some ⟨g, p, none⟩)) (cs : List Value) (hi : (Tryz.prog.info? 63).map (·.size) = some cs.length) (hS : ∀ w, S w → w.rangeAt g p cs) : YieldsIf Tryz.prog ops S o (.agg cs.toArray) a :=
  yieldsIf_load_mid hw _ _ ho g p hx cs _ hS Tryz.underlying63 rfl hi
theorem y_f_RWay0 (hw : Region.wanted o (yielded ops a.tmps) = true) (x : Operand) (ho : o.op = .fieldAddr 63 x 0) (g p : Nat) (hx : a.eval x = .pointer (some ⟨g, p, none⟩)) : YieldsIf Tryz.prog ops S o (.pointer (some ⟨g, p, none⟩)) a :=
  .inl ⟨hw, fun w hs => by
    unfold execOp
    simp only [ho, hx]
    go_simp⟩
theorem y_f_RWay1 (hw : Region.wanted o (yielded ops a.tmps) = true) (x : Operand) (ho : o.op = .fieldAddr 63 x 1) (g p : Nat) (hx : a.eval x = .pointer (some ⟨g, p, none⟩)) : YieldsIf Tryz.prog ops S o (.pointer (some ⟨g, p + 1, none⟩)) a :=
  .inl ⟨hw, fun w hs => by
    unfold execOp
    simp only [ho, hx]
    go_simp⟩
theorem y_f_RWay2 (hw : Region.wanted o (yielded ops a.tmps) = true) (x : Operand) (ho : o.op = .fieldAddr 63 x 2) (g p : Nat) (hx : a.eval x = .pointer (some ⟨g, p, none⟩)) : YieldsIf Tryz.prog ops S o (.pointer (some ⟨g, p + 2, none⟩)) a :=
  .inl ⟨hw, fun w hs => by
    unfold execOp
    simp only [ho, hx]
    go_simp⟩
theorem y_f_RWay3 (hw : Region.wanted o (yielded ops a.tmps) = true) (x : Operand) (ho : o.op = .fieldAddr 63 x 3) (g p : Nat) (hx : a.eval x = .pointer (some ⟨g, p, none⟩)) : YieldsIf Tryz.prog ops S o (.pointer (some ⟨g, p + 3, none⟩)) a :=
  .inl ⟨hw, fun w hs => by
    unfold execOp
    simp only [ho, hx]
    go_simp⟩
theorem y_f_RWay4 (hw : Region.wanted o (yielded ops a.tmps) = true) (x : Operand) (ho : o.op = .fieldAddr 63 x 4) (g p : Nat) (hx : a.eval x = .pointer (some ⟨g, p, none⟩)) : YieldsIf Tryz.prog ops S o (.pointer (some ⟨g, p + 4, none⟩)) a :=
  .inl ⟨hw, fun w hs => by
    unfold execOp
    simp only [ho, hx]
    go_simp⟩
theorem y_f_RWay5 (hw : Region.wanted o (yielded ops a.tmps) = true) (x : Operand) (ho : o.op = .fieldAddr 63 x 5) (g p : Nat) (hx : a.eval x = .pointer (some ⟨g, p, none⟩)) : YieldsIf Tryz.prog ops S o (.pointer (some ⟨g, p + 5, none⟩)) a :=
  .inl ⟨hw, fun w hs => by
    unfold execOp
    simp only [ho, hx]
    go_simp⟩
theorem y_f_RWay6 (hw : Region.wanted o (yielded ops a.tmps) = true) (x : Operand) (ho : o.op = .fieldAddr 63 x 6) (g p : Nat) (hx : a.eval x = .pointer (some ⟨g, p, none⟩)) : YieldsIf Tryz.prog ops S o (.pointer (some ⟨g, p + 6, none⟩)) a :=
  .inl ⟨hw, fun w hs => by
    unfold execOp
    simp only [ho, hx]
    go_simp⟩
theorem y_s_Node (hw : Region.wanted o (yielded ops a.tmps) = true) (x : Operand) (ho : o.op = .load 110 x) (g p : Nat) (hx : a.eval x = .pointer (some ⟨g, p, none⟩)) (cs : List Value) (hi : (Tryz.prog.info? 110).map (·.size) = some cs.length) (hS : ∀ w, S w → w.rangeAt g p cs) : YieldsIf Tryz.prog ops S o (.agg cs.toArray) a :=
  yieldsIf_load_mid hw _ _ ho g p hx cs _ hS Tryz.underlying110 rfl hi
theorem y_f_Node0 (hw : Region.wanted o (yielded ops a.tmps) = true) (x : Operand) (ho : o.op = .fieldAddr 110 x 0) (g p : Nat) (hx : a.eval x = .pointer (some ⟨g, p, none⟩)) : YieldsIf Tryz.prog ops S o (.pointer (some ⟨g, p, none⟩)) a :=
  .inl ⟨hw, fun w hs => by
    unfold execOp
    simp only [ho, hx]
    go_simp⟩
theorem y_f_Node1 (hw : Region.wanted o (yielded ops a.tmps) = true) (x : Operand) (ho : o.op = .fieldAddr 110 x 1) (g p : Nat) (hx : a.eval x = .pointer (some ⟨g, p, none⟩)) : YieldsIf Tryz.prog ops S o (.pointer (some ⟨g, p + 1, none⟩)) a :=
  .inl ⟨hw, fun w hs => by
    unfold execOp
    simp only [ho, hx]
    go_simp⟩
theorem y_f_Node2 (hw : Region.wanted o (yielded ops a.tmps) = true) (x : Operand) (ho : o.op = .fieldAddr 110 x 2) (g p : Nat) (hx : a.eval x = .pointer (some ⟨g, p, none⟩)) : YieldsIf Tryz.prog ops S o (.pointer (some ⟨g, p + 2, none⟩)) a :=
  .inl ⟨hw, fun w hs => by
    unfold execOp
    simp only [ho, hx]
    go_simp⟩
theorem y_f_Node3 (hw : Region.wanted o (yielded ops a.tmps) = true) (x : Operand) (ho : o.op = .fieldAddr 110 x 3) (g p : Nat) (hx : a.eval x = .pointer (some ⟨g, p, none⟩)) : YieldsIf Tryz.prog ops S o (.pointer (some ⟨g, p + 3, none⟩)) a :=
  .inl ⟨hw, fun w hs => by
    unfold execOp
    simp only [ho, hx]
    go_simp⟩
theorem y_f_Node4 (hw : Region.wanted o (yielded ops a.tmps) = true) (x : Operand) (ho : o.op = .fieldAddr 110 x 4) (g p : Nat) (hx : a.eval x = .pointer (some ⟨g, p, none⟩)) : YieldsIf Tryz.prog ops S o (.pointer (some ⟨g, p + 4, none⟩)) a :=
  .inl ⟨hw, fun w hs => by
    unfold execOp
    simp only [ho, hx]
    go_simp⟩
theorem y_f_Node5 (hw : Region.wanted o (yielded ops a.tmps) = true) (x : Operand) (ho : o.op = .fieldAddr 110 x 5) (g p : Nat) (hx : a.eval x = .pointer (some ⟨g, p, none⟩)) : YieldsIf Tryz.prog ops S o (.pointer (some ⟨g, p + 38, none⟩)) a :=
  .inl ⟨hw, fun w hs => by
    unfold execOp
    simp only [ho, hx]
    go_simp⟩
theorem y_s_Ref (hw : Region.wanted o (yielded ops a.tmps) = true) (x : Operand) (ho : o.op = .load 107 x) (g p : Nat) (hx : a.eval x = .pointer (some ⟨g, p, none⟩)) (cs : List Value) (hi : (Tryz.prog.info? 107).map (·.size) = some cs.length) (hS : ∀ w, S w → w.rangeAt g p cs) : YieldsIf Tryz.prog ops S o (.agg cs.toArray) a :=
  yieldsIf_load_mid hw _ _ ho g p hx cs _ hS Tryz.underlying107 rfl hi
theorem y_f_Ref0 (hw : Region.wanted o (yielded ops a.tmps) = true) (x : Operand) (ho : o.op = .fieldAddr 107 x 0) (g p : Nat) (hx : a.eval x = .pointer (some ⟨g, p, none⟩)) : YieldsIf Tryz.prog ops S o (.pointer (some ⟨g, p, none⟩)) a :=
  .inl ⟨hw, fun w hs => by
    unfold execOp
    simp only [ho, hx]
    go_simp⟩
theorem y_f_Ref1 (hw : Region.wanted o (yielded ops a.tmps) = true) (x : Operand) (ho : o.op = .fieldAddr 107 x 1) (g p : Nat) (hx : a.eval x = .pointer (some ⟨g, p, none⟩)) : YieldsIf Tryz.prog ops S o (.pointer (some ⟨g, p + 1, none⟩)) a :=
  .inl ⟨hw, fun w hs => by
    unfold execOp
    simp only [ho, hx]
    go_simp⟩
theorem y_f_Ref2 (hw : Region.wanted o (yielded ops a.tmps) = true) (x : Operand) (ho : o.op = .fieldAddr 107 x 2) (g p : Nat) (hx : a.eval x = .pointer (some ⟨g, p, none⟩)) : YieldsIf Tryz.prog ops S o (.pointer (some ⟨g, p + 33, none⟩)) a :=
  .inl ⟨hw, fun w hs => by
    unfold execOp
    simp only [ho, hx]
    go_simp⟩
theorem y_s_Case (hw : Region.wanted o (yielded ops a.tmps) = true) (x : Operand) (ho : o.op = .load 59 x) (g p : Nat) (hx : a.eval x = .pointer (some ⟨g, p, none⟩)) (cs : List Value) (hi : (Tryz.prog.info? 59).map (·.size) = some cs.length) (hS : ∀ w, S w → w.rangeAt g p cs) : YieldsIf Tryz.prog ops S o (.agg cs.toArray) a :=
  yieldsIf_load_mid hw _ _ ho g p hx cs _ hS Tryz.underlying59 rfl hi
theorem y_f_Case0 (hw : Region.wanted o (yielded ops a.tmps) = true) (x : Operand) (ho : o.op = .fieldAddr 59 x 0) (g p : Nat) (hx : a.eval x = .pointer (some ⟨g, p, none⟩)) : YieldsIf Tryz.prog ops S o (.pointer (some ⟨g, p, none⟩)) a :=
  .inl ⟨hw, fun w hs => by
    unfold execOp
    simp only [ho, hx]
    go_simp⟩
theorem y_f_Case1 (hw : Region.wanted o (yielded ops a.tmps) = true) (x : Operand) (ho : o.op = .fieldAddr 59 x 1) (g p : Nat) (hx : a.eval x = .pointer (some ⟨g, p, none⟩)) : YieldsIf Tryz.prog ops S o (.pointer (some ⟨g, p + 1, none⟩)) a :=
  .inl ⟨hw, fun w hs => by
    unfold execOp
    simp only [ho, hx]
    go_simp⟩
theorem y_f_Case2 (hw : Region.wanted o (yielded ops a.tmps) = true) (x : Operand) (ho : o.op = .fieldAddr 59 x 2) (g p : Nat) (hx : a.eval x = .pointer (some ⟨g, p, none⟩)) : YieldsIf Tryz.prog ops S o (.pointer (some ⟨g, p + 2, none⟩)) a :=
  .inl ⟨hw, fun w hs => by
    unfold execOp
    simp only [ho, hx]
    go_simp⟩
theorem y_f_Case3 (hw : Region.wanted o (yielded ops a.tmps) = true) (x : Operand) (ho : o.op = .fieldAddr 59 x 3) (g p : Nat) (hx : a.eval x = .pointer (some ⟨g, p, none⟩)) : YieldsIf Tryz.prog ops S o (.pointer (some ⟨g, p + 34, none⟩)) a :=
  .inl ⟨hw, fun w hs => by
    unfold execOp
    simp only [ho, hx]
    go_simp⟩
theorem y_len_byt (hw : Region.wanted o (yielded ops a.tmps) = true) (x : Operand) (ho : o.op = .call { callee := .builtin .len, args := #[x], argTypes := #[33] }) (p : Option Addr) (n c : Nat) (hx : a.eval x = .slice p n c) : YieldsIf Tryz.prog ops S o (.int .i64 (n : Int)) a :=
  .inl ⟨hw, fun w hs => by
    unfold execOp
    simp only [ho, resolve, List.map_toArray, List.map_cons, List.map_nil, hx]
    go_simp⟩
theorem y_len_hs (hw : Region.wanted o (yielded ops a.tmps) = true) (x : Operand) (ho : o.op = .call { callee := .builtin .len, args := #[x], argTypes := #[26] }) (p : Option Addr) (n c : Nat) (hx : a.eval x = .slice p n c) : YieldsIf Tryz.prog ops S o (.int .i64 (n : Int)) a :=
  .inl ⟨hw, fun w hs => by
    unfold execOp
    simp only [ho, resolve, List.map_toArray, List.map_cons, List.map_nil, hx]
    go_simp⟩
theorem y_len_lists (hw : Region.wanted o (yielded ops a.tmps) = true) (x : Operand) (ho : o.op = .call { callee := .builtin .len, args := #[x], argTypes := #[27] }) (p : Option Addr) (n c : Nat) (hx : a.eval x = .slice p n c) : YieldsIf Tryz.prog ops S o (.int .i64 (n : Int)) a :=
  .inl ⟨hw, fun w hs => by
    unfold execOp
    simp only [ho, resolve, List.map_toArray, List.map_cons, List.map_nil, hx]
    go_simp⟩
theorem y_len_tolds (hw : Region.wanted o (yielded ops a.tmps) = true) (x : Operand) (ho : o.op = .call { callee := .builtin .len, args := #[x], argTypes := #[25] }) (p : Option Addr) (n c : Nat) (hx : a.eval x = .slice p n c) : YieldsIf Tryz.prog ops S o (.int .i64 (n : Int)) a :=
  .inl ⟨hw, fun w hs => by
    unfold execOp
    simp only [ho, resolve, List.map_toArray, List.map_cons, List.map_nil, hx]
    go_simp⟩
theorem y_len_blobs (hw : Region.wanted o (yielded ops a.tmps) = true) (x : Operand) (ho : o.op = .call { callee := .builtin .len, args := #[x], argTypes := #[43] }) (p : Option Addr) (n c : Nat) (hx : a.eval x = .slice p n c) : YieldsIf Tryz.prog ops S o (.int .i64 (n : Int)) a :=
  .inl ⟨hw, fun w hs => by
    unfold execOp
    simp only [ho, resolve, List.map_toArray, List.map_cons, List.map_nil, hx]
    go_simp⟩
theorem y_len_entries (hw : Region.wanted o (yielded ops a.tmps) = true) (x : Operand) (ho : o.op = .call { callee := .builtin .len, args := #[x], argTypes := #[40] }) (p : Option Addr) (n c : Nat) (hx : a.eval x = .slice p n c) : YieldsIf Tryz.prog ops S o (.int .i64 (n : Int)) a :=
  .inl ⟨hw, fun w hs => by
    unfold execOp
    simp only [ho, resolve, List.map_toArray, List.map_cons, List.map_nil, hx]
    go_simp⟩
theorem y_len_rows (hw : Region.wanted o (yielded ops a.tmps) = true) (x : Operand) (ho : o.op = .call { callee := .builtin .len, args := #[x], argTypes := #[103] }) (p : Option Addr) (n c : Nat) (hx : a.eval x = .slice p n c) : YieldsIf Tryz.prog ops S o (.int .i64 (n : Int)) a :=
  .inl ⟨hw, fun w hs => by
    unfold execOp
    simp only [ho, resolve, List.map_toArray, List.map_cons, List.map_nil, hx]
    go_simp⟩
theorem y_s_Hash (hw : Region.wanted o (yielded ops a.tmps) = true) (x : Operand) (ho : o.op = .load 31 x) (g p : Nat) (hx : a.eval x = .pointer (some ⟨g, p, none⟩)) (k : List Nat) (hk : k.length = 32) (hS : ∀ w, S w → w.rangeAt g p (bv k)) : YieldsIf Tryz.prog ops S o (.agg (bv k).toArray) a :=
  yieldsIf_load_mid hw _ _ ho g p hx (bv k) _ hS Tryz.underlying31 rfl (info_bv hk)
theorem y_eqlH (hw : Region.wanted o (yielded ops a.tmps) = true) (x y : Operand) (ho : o.op = .binOp .eql 31 x y 31) (s t : List Nat) (hx : a.eval x = .agg (bv s).toArray) (hy : a.eval y = .agg (bv t).toArray) (hs : s.length = 32) (hf : ∀ x ∈ s, x < 256) (ht : t.length = 32) (hg : ∀ x ∈ t, x < 256) (r : Bool) (hr : (decide (s = t)) = r) : YieldsIf Tryz.prog ops S o (.bool r) a :=
  .inl ⟨hw, fun w _ => by
    have e := eq_hash w s t hs hf ht hg
    unfold execOp
    simp only [ho, hx, hy]
    obtain ⟨p, hp⟩ : ∃ p, p = (bv s).toArray := ⟨_, rfl⟩
    obtain ⟨q, hq⟩ : ∃ q, q = (bv t).toArray := ⟨_, rfl⟩
    rw [← hp, ← hq] at e
    rw [← hp, ← hq]
    clear hp hq
    subst hr
    go_simp⟩
theorem y_neqH (hw : Region.wanted o (yielded ops a.tmps) = true) (x y : Operand) (ho : o.op = .binOp .neq 31 x y 31) (s t : List Nat) (hx : a.eval x = .agg (bv s).toArray) (hy : a.eval y = .agg (bv t).toArray) (hs : s.length = 32) (hf : ∀ x ∈ s, x < 256) (ht : t.length = 32) (hg : ∀ x ∈ t, x < 256) (r : Bool) (hr : (!(decide (s = t))) = r) : YieldsIf Tryz.prog ops S o (.bool r) a :=
  .inl ⟨hw, fun w _ => by
    have e := eq_hash w s t hs hf ht hg
    unfold execOp
    simp only [ho, hx, hy]
    obtain ⟨p, hp⟩ : ∃ p, p = (bv s).toArray := ⟨_, rfl⟩
    obtain ⟨q, hq⟩ : ∃ q, q = (bv t).toArray := ⟨_, rfl⟩
    rw [← hp, ← hq] at e
    rw [← hp, ← hq]
    clear hp hq
    subst hr
    go_simp⟩
theorem y_look (hw : Region.wanted o (yielded ops a.tmps) = true) (T : TypeId) (m x : Operand) (ok : Bool) (ho : o.op = .lookup T m x ok) (vm vx v : Value) (hm : a.eval m = vm) (hx : a.eval x = vx) (hr : ∀ w, S w → (Instr.lookup T vm vx ok).run Tryz.prog w = .ok v w) : YieldsIf Tryz.prog ops S o v a :=
  .inl ⟨hw, fun w hs => by
    have e := hr w hs
    unfold execOp
    simp only [ho, hm, hx, Sem.run_bind, e, Result.andThen_ok]
    rfl⟩
theorem y_lenB' (hw : Region.wanted o (yielded ops a.tmps) = true) (x : Operand) (ho : o.op = .call { callee := .builtin .len, args := #[x], argTypes := #[33] }) (p : Option Addr) (n c : Nat) (hx : a.eval x = .slice p n c) : YieldsIf Tryz.prog ops S o (.int .i64 (n : Int)) a :=
  .inl ⟨hw, fun w _ => by
    unfold execOp
    simp only [ho, resolve, List.map_toArray, List.map_cons, List.map_nil, hx]
    go_simp⟩
theorem y_lenM (hw : Region.wanted o (yielded ops a.tmps) = true) (x : Operand) (T : TypeId) (ho : o.op = .call { callee := .builtin .len, args := #[x], argTypes := #[T] }) (m n : Nat) (hx : a.eval x = .map (some m)) (hr : ∀ w, S w → ∀ ty, (Builtin.len_ #[T] ty #[.map (some m)]).run Tryz.prog w = .ok (.int .i64 (n : Int)) w) : YieldsIf Tryz.prog ops S o (.int .i64 (n : Int)) a :=
  .inl ⟨hw, fun w hs => by
    have e := hr w hs o.type
    unfold execOp
    simp only [ho, resolve, invoke, builtin, Sem.run_bind, Sem.run_pure, List.map_toArray, List.map_cons, List.map_nil, hx, Result.andThen_ok, e]⟩
theorem y_lssIr (hw : Region.wanted o (yielded ops a.tmps) = true) (x y : Operand) (ho : o.op = .binOp .lss 3 x y 3) (d d' : Int) (hx : a.eval x = .int .i64 d) (hy : a.eval y = .int .i64 d') (r : Bool) (hr : decide (d < d') = r) : YieldsIf Tryz.prog ops S o (.bool r) a :=
  .inl ⟨hw, fun w _ => by
    unfold execOp
    simp only [ho, hx, hy]
    subst hr
    go_simp⟩
theorem y_leqIr (hw : Region.wanted o (yielded ops a.tmps) = true) (x y : Operand) (ho : o.op = .binOp .leq 3 x y 3) (d d' : Int) (hx : a.eval x = .int .i64 d) (hy : a.eval y = .int .i64 d') (r : Bool) (hr : decide (d ≤ d') = r) : YieldsIf Tryz.prog ops S o (.bool r) a :=
  .inl ⟨hw, fun w _ => by
    unfold execOp
    simp only [ho, hx, hy]
    subst hr
    go_simp⟩
theorem y_eqlEr (hw : Region.wanted o (yielded ops a.tmps) = true) (x y : Operand) (ho : o.op = .binOp .eql 34 x y 34) (d d' : Int) (hx : a.eval x = .int .i64 d) (hy : a.eval y = .int .i64 d') (r : Bool) (hr : (d == d') = r) : YieldsIf Tryz.prog ops S o (.bool r) a :=
  .inl ⟨hw, fun w _ => by
    unfold execOp
    simp only [ho, hx, hy]
    subst hr
    go_simp⟩
theorem y_addIr (hw : Region.wanted o (yielded ops a.tmps) = true) (x y : Operand) (ho : o.op = .binOp .add 3 x y 3) (d d' r : Int) (hx : a.eval x = .int .i64 d) (hy : a.eval y = .int .i64 d') (hr : IntKind.i64.wrap (d + d') = r) : YieldsIf Tryz.prog ops S o (.int .i64 r) a :=
  .inl ⟨hw, fun w _ => by
    unfold execOp
    simp only [ho, hx, hy]
    subst hr
    go_simp⟩
theorem y_gtrIr (hw : Region.wanted o (yielded ops a.tmps) = true) (x y : Operand) (ho : o.op = .binOp .gtr 3 x y 3) (d d' : Int) (hx : a.eval x = .int .i64 d) (hy : a.eval y = .int .i64 d') (r : Bool) (hr : decide (d' < d) = r) : YieldsIf Tryz.prog ops S o (.bool r) a :=
  .inl ⟨hw, fun w hs => by
    unfold execOp
    simp only [ho, hx, hy]
    subst hr
    go_simp⟩
theorem y_geqIr (hw : Region.wanted o (yielded ops a.tmps) = true) (x y : Operand) (ho : o.op = .binOp .geq 3 x y 3) (d d' : Int) (hx : a.eval x = .int .i64 d) (hy : a.eval y = .int .i64 d') (r : Bool) (hr : decide (d' ≤ d) = r) : YieldsIf Tryz.prog ops S o (.bool r) a :=
  .inl ⟨hw, fun w hs => by
    unfold execOp
    simp only [ho, hx, hy]
    subst hr
    go_simp⟩
theorem y_eqlIr (hw : Region.wanted o (yielded ops a.tmps) = true) (x y : Operand) (ho : o.op = .binOp .eql 3 x y 3) (d d' : Int) (hx : a.eval x = .int .i64 d) (hy : a.eval y = .int .i64 d') (r : Bool) (hr : (d == d') = r) : YieldsIf Tryz.prog ops S o (.bool r) a :=
  .inl ⟨hw, fun w hs => by
    unfold execOp
    simp only [ho, hx, hy]
    subst hr
    go_simp⟩
theorem y_neqIr (hw : Region.wanted o (yielded ops a.tmps) = true) (x y : Operand) (ho : o.op = .binOp .neq 3 x y 3) (d d' : Int) (hx : a.eval x = .int .i64 d) (hy : a.eval y = .int .i64 d') (r : Bool) (hr : (d != d') = r) : YieldsIf Tryz.prog ops S o (.bool r) a :=
  .inl ⟨hw, fun w hs => by
    unfold execOp
    simp only [ho, hx, hy]
    subst hr
    go_simp⟩
end

section
variable {ops : Array Oper} {o : Oper} {a : Act} {Q : Exit → Act → World → Prop} {w : World} {K : Act → World → Prop} {E : Prop}
/-- an operation that yields a value, and turns the world -/
theorem r_val (hw : Region.wanted o (yielded ops a.tmps) = true) (v : Value) (w' : World) (hr : (execOp a.eval o).run Tryz.prog w = .ok (.value v) w') (h : K (a.put o.dst v) w') : if Region.wanted o (yielded ops a.tmps) = true then Oper.wp Tryz.prog o a w K Q else E := by
  rw [if_pos hw]
  unfold Oper.wp
  rw [hr]
  exact h
theorem r_unit (hw : Region.wanted o (yielded ops a.tmps) = true) (w' : World) (hr : (execOp a.eval o).run Tryz.prog w = .ok .skip w') (h : K (a.put o.dst undef) w') : if Region.wanted o (yielded ops a.tmps) = true then Oper.wp Tryz.prog o a w K Q else E := by
  rw [if_pos hw]
  unfold Oper.wp
  rw [hr]
  exact h
theorem r_entry (hw : Region.wanted o (yielded ops a.tmps) = true) (T : TypeId) (m x : Operand) (ho : o.op = .mapEntry T m x) (vm vx v : Value) (w' : World) (hm : a.eval m = vm) (hx : a.eval x = vx) (hr : (Instr.mapEntry T vm vx).run Tryz.prog w = .ok v w') (h : K (a.put o.dst v) w') : if Region.wanted o (yielded ops a.tmps) = true then Oper.wp Tryz.prog o a w K Q else E := by
  refine r_val hw v w' ?_ h
  unfold execOp
  simp only [ho, hm, hx, Sem.run_bind, hr, Result.andThen_ok]
  rfl
theorem r_estore (hw : Region.wanted o (yielded ops a.tmps) = true) (T : TypeId) (m x y : Operand) (ho : o.op = .entryStore T m x y) (vm vx vy : Value) (w' : World) (hm : a.eval m = vm) (hx : a.eval x = vx) (hy : a.eval y = vy) (hr : (Instr.entryStore T vm vx vy).run Tryz.prog w = .ok () w') (h : K (a.put o.dst undef) w') : if Region.wanted o (yielded ops a.tmps) = true then Oper.wp Tryz.prog o a w K Q else E := by
  refine r_unit hw w' ?_ h
  unfold execOp
  simp only [ho, hm, hx, hy, Sem.run_bind, hr, Result.andThen_ok]
  rfl
theorem r_update (hw : Region.wanted o (yielded ops a.tmps) = true) (T : TypeId) (m x y : Operand) (ho : o.op = .mapUpdate T m x y) (vm vx vy : Value) (w' : World) (hm : a.eval m = vm) (hx : a.eval x = vx) (hy : a.eval y = vy) (hr : (Instr.mapUpdate T vm vx vy).run Tryz.prog w = .ok () w') (h : K (a.put o.dst undef) w') : if Region.wanted o (yielded ops a.tmps) = true then Oper.wp Tryz.prog o a w K Q else E := by
  refine r_unit hw w' ?_ h
  unfold execOp
  simp only [ho, hm, hx, hy, Sem.run_bind, hr, Result.andThen_ok]
  rfl
theorem fill_one {n : Nat} {v : Value} {cs : List Value} (base : Array Value) (hb : base.size = n) (hc : cs.length = n) (hv : v.cells = cs.toArray) : Instr.fill (fun i => some (i * n, n)) base [(0, v)] = some cs.toArray := by
  rw [fill_step (off := 0) (size := n) (by simp) (by rw [hv, List.size_toArray, hc]) (by omega), hv]
  have e := fold_list 0 [] base.toList cs [] rfl (by rw [hc, Array.length_toList, hb])
  simp only [List.nil_append, List.append_nil, Array.toArray_toList] at e
  rw [show (fun (cs : Array Value) (x : Value × Nat) => match x with | (c, j) => cs.setIfInBounds (0 + j) c) = (fun (cs : Array Value) (p : Value × Nat) => cs.setIfInBounds (0 + p.2) p.1) from rfl, e]
  rfl
/-- a list of one element is made -/
theorem r_one (hw : Region.wanted o (yielded ops a.tmps) = true) (t e : TypeId) (x : Operand) (ho : o.op = .buildSlice t 1 #[(0, x)]) (v : Value) (cs : List Value) (hx : a.eval x = v) (hcs : v.cells = cs.toArray)
    (ie : TypeInfo) (z : Value) (ht : Tryz.prog.underlying t = some (.slice e)) (hi : Tryz.prog.info? e = some ie) (hz : ie.zero = some z) (hsz : ie.size = cs.length) (h0 : 0 < cs.length) (h1 : cs.length ≤ 64)
    (h : K (a.put o.dst (.slice (some ⟨w.heap.size, 0, none⟩) 1 1)) (w.alloc (.cells cs.toArray e))) : if Region.wanted o (yielded ops a.tmps) = true then Oper.wp Tryz.prog o a w K Q else E := by
  rw [if_pos hw]
  refine wp_buildSlice t e 1 #[(0, x)] ho cs.toArray ie z ht hi hz (by rw [hsz]; omega) (by rw [hsz]; omega) ?_ h
  simp only [List.map_toArray, List.map_cons, List.map_nil, hx]
  refine fill_one _ ?_ hsz.symm hcs
  rw [Array.size_map, Array.size_range]
  omega
/-- a list grows -/
theorem r_append (hw : Region.wanted o (yielded ops a.tmps) = true) (s x : Operand) (t : TypeId) (ho : o.op = .call { callee := .builtin .append, args := #[s, x], argTypes := #[t, t] })
    (base : Nat) (e : TypeId) (i : TypeInfo) (z : Value) (size bytes : Nat) (ht : Tryz.prog.underlying t = some (.slice e)) (hi : Tryz.prog.info? e = some i) (hz : i.zero = some z)
    (hsize : i.size = size) (hby : i.bytes = bytes) (hzs : z.cells.size = size) (hsz : 0 < size)
    (v : Value) (n : Nat) (xs : List Value) (hs : a.eval s = v) (hown : w.ownsRow base e size v n xs)
    (ad : Addr) (m c : Nat) (news : List Value) (hx : a.eval x = .slice (some ad) m c) (hl : news.length = m * size) (hnews : ∀ j u, news[j]? = some u → w.cell? (ad.add j) = some u) (h1 : ∀ u ∈ news, u.oneCell' = true)
    (h63 : n + m ≤ maxLen) (hbytes : (n + m) * bytes ≤ 140737488355328) (hbase : base ≤ w.heap.size)
    (h : ∀ v' w', w'.ownsRow base e size v' (n + m) (xs ++ news) → w.grownBy w' v.ownBlock → (v'.ownBlock = v.ownBlock ∨ v'.ownBlock = some w.heap.size) → K (a.put o.dst v') w') :
    if Region.wanted o (yielded ops a.tmps) = true then Oper.wp Tryz.prog o a w K Q else E := by
  obtain ⟨v', w', hr, h2, h3, h4, h5⟩ := run_append_own_at (P := Tryz.prog) w base t o.type e i z size bytes ht hi hz hsize hby hzs hsz v n xs hown ad m c news hl hnews h1 h63 hbytes hbase
  refine r_val hw v' w' ?_ (h v' w' h2 h3 h5)
  unfold execOp
  simp only [ho, resolve, invoke, builtin, Sem.run_bind, Sem.run_pure, Result.andThen_ok, List.map_toArray, List.map_cons, List.map_nil, hs, hx, hr]
theorem r_stS (hw : Region.wanted o (yielded ops a.tmps) = true) (T : TypeId) (x y : Operand) (ho : o.op = .store T x y) (b : Nat) (cs old : List Value) (hi : (Tryz.prog.info? T).map (·.size) = some cs.length) (hl : cs.length = old.length) (h1 : cs.toArray.all (·.oneCell') = true) (hb : w.heap[b]? = some (.cells old.toArray T (0, 0)))
    (hx : a.eval x = .pointer (some ⟨b, 0, none⟩)) (hy : a.eval y = .agg cs.toArray) (h : K (a.put o.dst undef) (w.setRow b cs.toArray)) :
    if Region.wanted o (yielded ops a.tmps) = true then Oper.wp Tryz.prog o a w K Q else E := by
  rw [if_pos hw]
  exact wp_store_row T x y ho b cs.toArray hx hy T old.toArray hb (by rw [List.size_toArray]; exact hi) (by rw [List.size_toArray, List.size_toArray, hl]) h1 h
theorem r_call1 (f : Nat) (x : Operand) (ts : Array TypeId) (ho : o.op = .call { callee := .value (.func f), args := #[x], argTypes := ts }) (hw : Region.wanted o (yielded ops a.tmps) = true) (u : Value) (hx : a.eval x = u)
    (eg : ∀ args w, (callFunc f args).run Tryz.prog w = .ok (.enter f args) w) (hc : Calls Tryz.prog f #[u] w fun e w' => ∃ z, e = .returned z ∧ K (a.put o.dst z) w') :
    if Region.wanted o (yielded ops a.tmps) = true then Oper.wp Tryz.prog o a w K Q else E := by
  rw [if_pos hw]
  have e : (execOp a.eval o).run Tryz.prog w = .ok (.enter f #[u]) w := by
    unfold execOp
    have := eg #[u] w
    simp only [ho, resolve, List.map_toArray, List.map_cons, List.map_nil, hx]
    go_simp
  unfold Oper.wp
  rw [e, Oper.upon_enter]
  refine hc.mono ?_
  rintro _ w' ⟨z, rfl, h⟩
  exact h
theorem r_call2 (f : Nat) (x y : Operand) (ts : Array TypeId) (ho : o.op = .call { callee := .value (.func f), args := #[x, y], argTypes := ts }) (hw : Region.wanted o (yielded ops a.tmps) = true) (u v : Value) (hx : a.eval x = u) (hy : a.eval y = v)
    (eg : ∀ args w, (callFunc f args).run Tryz.prog w = .ok (.enter f args) w) (hc : Calls Tryz.prog f #[u, v] w fun e w' => ∃ z, e = .returned z ∧ K (a.put o.dst z) w') :
    if Region.wanted o (yielded ops a.tmps) = true then Oper.wp Tryz.prog o a w K Q else E := by
  rw [if_pos hw]
  have e : (execOp a.eval o).run Tryz.prog w = .ok (.enter f #[u, v]) w := by
    unfold execOp
    have := eg #[u, v] w
    simp only [ho, resolve, List.map_toArray, List.map_cons, List.map_nil, hx, hy]
    go_simp
  unfold Oper.wp
  rw [e, Oper.upon_enter]
  refine hc.mono ?_
  rintro _ w' ⟨z, rfl, h⟩
  exact h
/-- a call through an interface -/
theorem r_inv (f : Nat) (x y : Operand) (name : String) (ts : Array TypeId) (ho : o.op = .call { callee := .invoke x name, args := #[y], argTypes := ts }) (hw : Region.wanted o (yielded ops a.tmps) = true) (t : TypeId) (u v : Value) (hx : a.eval x = .iface t u) (hy : a.eval y = v)
    (hm : (method (Tryz.prog.types.size + Made.depth) t u name).run Tryz.prog w = .ok (f, u) w) (eg : ∀ args w, (callFunc f args).run Tryz.prog w = .ok (.enter f args) w) (hc : Calls Tryz.prog f #[u, v] w fun e w' => ∃ z, e = .returned z ∧ K (a.put o.dst z) w') :
    if Region.wanted o (yielded ops a.tmps) = true then Oper.wp Tryz.prog o a w K Q else E := by
  rw [if_pos hw]
  have e : (execOp a.eval o).run Tryz.prog w = .ok (.enter f #[u, v]) w := by
    unfold execOp
    have := eg #[u, v] w
    simp only [ho, resolve, invoke, callMethod, List.map_toArray, List.map_cons, List.map_nil, hx, hy, Sem.run_bind, Sem.run_pure, Result.andThen_ok]
    have hm2 := hm
    simp [go_sem] at hm2
    simp [go_sem]
    rw [hm2, Result.andThen_ok]
    exact this
  unfold Oper.wp
  rw [e, Oper.upon_enter]
  refine hc.mono ?_
  rintro _ w' ⟨z, rfl, h⟩
  exact h
end
end Go.Proofs.YtepeolbbplodfaaGreatDoor.Z
