/-
  NodeRound: laws of one operation.
-/
import Derived.Test.YtmblfmcckejlmaaCutL
namespace Go.Proofs.Ytmblfmcckejlmaa
open Go.RowKit

theorem eNum : ∀ args w, (callFunc 9 args).run Try.prog w = .ok (.enter 9 args) w := enters_of Try.func9 (by kernel_rfl) rfl
theorem eSame : ∀ args w, (callFunc 13 args).run Try.prog w = .ok (.enter 13 args) w := enters_of Try.func13 (by kernel_rfl) rfl
theorem vb_view {w : World} {a : Option Addr} {n c : Nat} {s : List Nat} (h : Vb w (.slice a n c) s) : ∃ b off, Vw w a b off s ∧ (a = none → c = 0) := by
  obtain ⟨a', b, off, c', e, hv, h1, h2, h3⟩ := h
  injection e with e1 e2 e3
  subst e1 e3
  exact ⟨b, off, hv, h2⟩
section
variable {ops : Array Oper} {S : World → Prop} {o : Oper} {a : Act}
theorem y_eqlIr (hw : Region.wanted o (yielded ops a.tmps) = true) (x y : Operand) (ho : o.op = .binOp .eql 3 x y 3) (d d' : Int) (hx : a.eval x = .int .i64 d) (hy : a.eval y = .int .i64 d') (r : Bool) (hr : (d == d') = r) : YieldsIf Try.prog ops S o (.bool r) a :=
  .inl ⟨hw, fun w _ => by
    unfold execOp
    simp only [ho, hx, hy]
    subst hr
    go_simp⟩
theorem y_eqlSr (hw : Region.wanted o (yielded ops a.tmps) = true) (x y : Operand) (ho : o.op = .binOp .eql 9 x y 9) (s s' : ByteArray) (hx : a.eval x = .string s) (hy : a.eval y = .string s') (r : Bool) (hr : (s.toList == s'.toList) = r) : YieldsIf Try.prog ops S o (.bool r) a :=
  .inl ⟨hw, fun w _ => by
    unfold execOp
    simp only [ho, hx, hy]
    subst hr
    go_simp⟩
theorem y_neqBs (hw : Region.wanted o (yielded ops a.tmps) = true) (x y : Operand) (ho : o.op = .binOp .neq 4 x y 4) (b : Bool) (hx : a.eval x = .bool b) (hy : a.eval y = .bool b) : YieldsIf Try.prog ops S o (.bool false) a :=
  .inl ⟨hw, fun w _ => by
    have e : (b != b) = false := by simp
    unfold execOp
    simp only [ho, hx, hy]
    go_simp⟩
end
end Go.Proofs.Ytmblfmcckejlmaa
