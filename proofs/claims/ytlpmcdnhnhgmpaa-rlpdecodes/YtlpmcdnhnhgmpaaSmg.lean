/-
  cairnlaw05.smudged.
-/
import Derived.Test.YtlpmcdnhnhgmpaaSm1
namespace Go.Proofs.Ytlpmcdnhnhgmpaa
open Go.RowKit

/-- the mark at place j of the list i -/
def mrk (i j : Nat) : Nat := (37 * i + j) % 256
theorem mrk_lt (i j : Nat) : mrk i j < 256 := Nat.mod_lt _ (by decide)
theorem conv_mrk (i j : Nat) : IntKind.u8.wrap (37 * (i : Int) + (j : Int)) = ((mrk i j : Nat) : Int) := by
  unfold mrk
  simp [IntKind.wrap, IntKind.bits, IntKind.signed]
/-- the marks of the list i -/
def mks (i n : Nat) : List Nat := lst n (mrk i)
theorem mks_len (i n : Nat) : (mks i n).length = n := lst_len _ _
theorem mks_gd {i n j : Nat} (h : j < n) : gd (mks i n) j = mrk i j := lst_gd h
/-- the mark of the room behind the list i -/
def far (m i : Nat) : Nat := m ^^^ (i % 256)
theorem far_lt {m : Nat} (hm : m < 256) (i : Nat) : far m i < 256 := Nat.xor_lt_two_pow (n := 8) hm (Nat.mod_lt _ (by decide))
theorem conv_far (i : Nat) : IntKind.u8.wrap (i : Int) = ((i % 256 : Nat) : Int) := by
  simp [IntKind.wrap, IntKind.bits, IntKind.signed]
theorem xor_far {m : Nat} (hm : m < 256) (i : Nat) : bits .xor .u8 (m : Int) ((i % 256 : Nat) : Int) = ((far m i : Nat) : Int) := u8_xor_nat m (i % 256) hm (Nat.mod_lt _ (by decide))
def fars (m i : Nat) : List Nat := List.replicate 64 (far m i)

theorem eRoom : ∀ args w, (callFunc 36 args).run Try.prog w = .ok (.enter 36 args) w := enters_of Try.func36 (by kernel_rfl) rfl
theorem fillB1 (a0 : Option Addr) (n0 c0 : Nat) : Instr.fill (fun i => some (i * 1, 1)) ((Array.range (1 * 1)).map (nilS.cells[· % nilS.cells.size]!)) [(0, .slice a0 n0 c0)] = some #[.slice a0 n0 c0] := by kernel_rfl
section
variable {ops : Array Oper} {S : World → Prop} {o : Oper} {a : Act}
theorem r_build1 {Q : Exit → Act → World → Prop} {w : World} {K : Act → World → Prop} {E : Prop} (y0 : Operand) (ho : o.op = .buildSlice 50 1 #[(0, y0)]) (hw : Region.wanted o (yielded ops a.tmps) = true) (a0 : Option Addr) (n0 c0 : Nat) (e0 : a.eval y0 = .slice a0 n0 c0)
    (h : K (a.put o.dst (.slice (some ⟨w.heap.size, 0, none⟩) 1 1)) (w.alloc (.cells #[.slice a0 n0 c0] 22))) :
    if Region.wanted o (yielded ops a.tmps) = true then Oper.wp Try.prog o a w K Q else E := by
  rw [if_pos hw]
  obtain ⟨i0, hi0, hz0, hz1, hz2⟩ := info_parts infoB
  refine wp_buildSlice 50 22 1 _ ho _ i0 _ Try.underlying50 hi0 hz0 (by rw [hz1]; decide) (by rw [hz1]; decide) ?_ h
  rw [hz1]
  simp only [List.map_toArray, List.map_cons, List.map_nil, e0]
  exact fillB1 _ _ _
theorem y_indexL (hw : Region.wanted o (yielded ops a.tmps) = true) (x i : Operand) (ho : o.op = .indexAddr 50 x i) (g n c j : Nat) (hx : a.eval x = .slice (some ⟨g, 0, none⟩) n c) (hi : a.eval i = .int .i64 j) (hj : j < n) : YieldsIf Try.prog ops S o (.pointer (some ⟨g, j, none⟩)) a :=
  .inl ⟨hw, fun w _ => by
    have q : (j : Int) < (n : Int) := by omega
    unfold execOp
    simp only [ho, hx, hi]
    go_simp⟩
theorem y_conv8 (hw : Region.wanted o (yielded ops a.tmps) = true) (x : Operand) (ho : o.op = .convert 3 5 x) (j : Nat) (hx : a.eval x = .int .i64 j) : YieldsIf Try.prog ops S o (.int .u8 ((j % 256 : Nat) : Int)) a :=
  .inl ⟨hw, fun w _ => by
    have q := conv_far j
    unfold execOp
    simp only [ho, hx]
    go_simp⟩
theorem y_xor8 (hw : Region.wanted o (yielded ops a.tmps) = true) (x y : Operand) (ho : o.op = .binOp .xor 5 x y 5) (m j : Nat) (hm : m < 256) (hx : a.eval x = .int .u8 (m : Int)) (hy : a.eval y = .int .u8 ((j % 256 : Nat) : Int)) : YieldsIf Try.prog ops S o (.int .u8 ((far m j : Nat) : Int)) a :=
  .inl ⟨hw, fun w _ => by
    have q := xor_far hm j
    rw [show ((j % 256 : Nat) : Int) = (j : Int) % 256 by omega] at q
    unfold execOp
    simp only [ho, hx, hy]
    go_simp⟩
end
end Go.Proofs.Ytlpmcdnhnhgmpaa
