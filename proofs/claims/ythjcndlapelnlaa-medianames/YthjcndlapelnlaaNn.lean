/-
  For access: next without choices; the deed of the first choice.
-/
import Derived.Test.YthjcndlapelnlaaHp
import Derived.Test.YthjcndlapelnlaaDe
namespace Go.Proofs.Ythjcndlapelnlaa
open Go.RowKit Go.Maps Go.ChangeMaps

set_option maxRecDepth 100000 in
set_option maxHeartbeats 800000 in
theorem next_nil {w : World} {g : Nat} {d : Dvf} (h : Db w g d) {a : Option Addr} {c : Nat} (hc : d.ch = .slice a 0 c) :
    Calls Try.prog 40 #[.pointer (some ⟨g, 0, none⟩)] w fun e w' => e = .returned (.agg #[.int .i64 0, .int .i64 0, .int .i64 0]) ∧ Below w.heap.size w w' := by
  obtain ⟨c0, c1, c2, c3, c4, c5, c6, c7, c8, c9, c10, c11⟩ := h.at_
  rw [hc] at c6
  have hgl := h.lt
  have hgn : g ≠ w.heap.size := by omega
  clear h c0 c1 c2 c3 c4 c5 c7 c8 c9 c10 c11 hc
  go_enter Try.func40, Try.ntmps40
  go_wp2_with fail
  exact bodyPost_ret (v := .agg #[.int .i64 0, .int .i64 0, .int .i64 0]) (by simp [results, Try.results40, go_sem]) rfl ⟨rfl, (Below.refl _ _).alloc (Nat.le_refl _) _⟩
theorem toB_same (k : Int) (v : Value) : toB k v v v v = v := by
  unfold toB
  split
  · rfl
  · split
    · rfl
    · split <;> rfl
abbrev fh : Value := fv 49
theorem to_honest (w : World) (k : Int) : Calls Try.prog 42 #[.agg #[fh, fh, fh, fh], .int .i64 k] w fun e w' => e = .returned fh ∧ Below w.heap.size w w' := by
  have := to_any w k fh fh fh fh
  rw [toB_same] at this
  exact this
set_option maxRecDepth 100000 in
theorem idx0 (w : World) : (Instr.index 104 (.agg deedL.toArray) (.int .i64 0)).run Try.prog w = .ok (.agg #[fh, fh, fh, fh]) w := by
  have hi : (Try.prog.info? 103).map (·.size) = some 4 := by kernel_rfl
  simp [Instr.index, run_underlying Try.underlying104, deedL, part, go_sem]
section
variable {ops : Array Oper} {S : World → Prop} {o : Oper} {a : Act}
theorem y_idx (hw : Region.wanted o (yielded ops a.tmps) = true) (T : TypeId) (x i : Operand) (ho : o.op = .index T x i) (vx vi v : Value) (hx : a.eval x = vx) (hi : a.eval i = vi) (hr : ∀ w, (Instr.index T vx vi).run Try.prog w = .ok v w) : YieldsIf Try.prog ops S o v a :=
  .inl ⟨hw, fun w hs => by
    have e := hr w
    unfold execOp
    simp only [ho, hx, hi, Sem.run_bind, e, Result.andThen_ok]
    rfl⟩
end
end Go.Proofs.Ythjcndlapelnlaa
