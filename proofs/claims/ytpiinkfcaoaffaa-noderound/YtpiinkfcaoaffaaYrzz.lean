import Derived.Test.YtpiinkfcaoaffaaPkEzz
import Derived.Test.YtpiinkfcaoaffaaPkOzz
import Derived.Test.YtpiinkfcaoaffaaUpEzz
import Derived.Test.YtpiinkfcaoaffaaUpOzz
import Derived.Test.YtpiinkfcaoaffaaOgzz
import Derived.Test.YtpiinkfcaoaffaaReszz
/-
  path.Pack.
-/
namespace Go.Proofs.Ytpiinkfcaoaffaa
open Go.RowKit
set_option maxRecDepth 100000 in
set_option maxHeartbeats 400000 in
theorem pack_no (w : World) (a : Option Addr) (b off c : Nat) (s : List Nat) (leaf : Bool) (hv : Vw w a b off s) (hp : ¬ IsP s) :
    Calls Try.prog 32 #[.slice a s.length c, .bool leaf] w fun e w' => e = .returned (.tuple #[.slice none 0 0, .int .i64 60]) ∧ w' = w := by
  have K := isPath_any w a b off c s hv
  rw [decide_eq_false hp] at K
  have HK : Hid (Calls Try.prog 46 #[.slice a s.length c] w fun e w' => e = .returned (.bool false) ∧ w' = w) := K
  have hn := hv.len
  clear K hv hp
  generalize s.length = n at *
  go_enter Try.func32, Try.ntmps32
  go_wp2_with fail
  refine HK.out.mono ?_
  rintro e w1 ⟨rfl, rfl⟩
  go_wp2_with fail
  go_ret2
  exact ⟨rfl, rfl⟩
/-- P6.2 -/
theorem pack_any (w : World) (a : Option Addr) (b off c : Nat) (s : List Nat) (leaf : Bool) (hv : Vw w a b off s) (hc : s.length ≤ c) :
    Calls Try.prog 32 #[.slice a s.length c, .bool leaf] w fun e w' => ∃ v, e = .returned (.tuple #[v, .int .i64 ((pkE s : Nat) : Int)]) ∧ Ans w w' v (pkR leaf s) := by
  by_cases hp : IsP s
  · have e1 : pkE s = 0 := if_pos hp
    have e2 : pkR leaf s = pkL leaf s := if_pos hp
    rw [e1, e2]
    by_cases ho : s.length % 2 = 0
    · cases leaf
      · exact pack_0f w a b off c s hv hp ho
      · exact pack_0t w a b off c s hv hp ho
    · have ho1 : s.length % 2 = 1 := by omega
      cases leaf
      · exact pack_1f w a b off c s hv hc hp ho1
      · exact pack_1t w a b off c s hv hc hp ho1
  · have e1 : pkE s = 60 := if_neg hp
    have e2 : pkR leaf s = [] := if_neg hp
    rw [e1, e2]
    refine (pack_no w a b off c s leaf hv hp).mono ?_
    rintro e w' ⟨rfl, rfl⟩
    exact ⟨_, rfl, ans_nil (Below.refl _ _)⟩
end Go.Proofs.Ytpiinkfcaoaffaa
/-
  path.Unpack.
-/
namespace Go.Proofs.Ytpiinkfcaoaffaa
open Go.RowKit
set_option maxRecDepth 100000 in
set_option maxHeartbeats 400000 in
theorem unpack_no (w : World) (a : Option Addr) (b off c : Nat) (s : List Nat) (hv : Vw w a b off s) (hp : ¬ IsF s) :
    Calls Try.prog 50 #[.slice a s.length c] w fun e w' => e = .returned (.tuple #[.slice none 0 0, .bool false, .int .i64 60]) ∧ w' = w := by
  have K := isForm_any w a b off c s hv
  rw [decide_eq_false hp] at K
  have HK : Hid (Calls Try.prog 56 #[.slice a s.length c] w fun e w' => e = .returned (.bool false) ∧ w' = w) := K
  have hn := hv.len
  clear K hv hp
  generalize s.length = n at *
  go_enter Try.func50, Try.ntmps50
  go_wp2_with fail
  refine HK.out.mono ?_
  rintro e w1 ⟨rfl, rfl⟩
  go_wp2_with fail
  go_ret3
  exact ⟨rfl, rfl⟩
/-- P6.3 -/
theorem unpack_any (w : World) (a : Option Addr) (b off c : Nat) (s : List Nat) (hv : Vw w a b off s) (hc : s.length ≤ c) :
    Calls Try.prog 50 #[.slice a s.length c] w fun e w' => ∃ v, e = .returned (.tuple #[v, .bool (upI s), .int .i64 ((upE s : Nat) : Int)]) ∧ Ans w w' v (upR s) := by
  by_cases hp : IsF s
  · have e1 : upE s = 0 := if_pos hp
    have e2 : upR s = upL s := if_pos hp
    have e3 : upI s = lf s := if_pos hp
    rw [e1, e2, e3]
    have := od_lt s
    by_cases ho : od s = 0
    · exact unpack_0 w a b off c s hv hc hp ho
    · exact unpack_1 w a b off c s hv hc hp (by omega)
  · have e1 : upE s = 60 := if_neg hp
    have e2 : upR s = [] := if_neg hp
    have e3 : upI s = false := if_neg hp
    rw [e1, e2, e3]
    refine (unpack_no w a b off c s hv hp).mono ?_
    rintro e w' ⟨rfl, rfl⟩
    exact ⟨_, rfl, ans_nil (Below.refl _ _)⟩
end Go.Proofs.Ytpiinkfcaoaffaa
/-
  Operations of a region that draws its order, each by a law of its own.
-/
namespace Go.Proofs.Ytpiinkfcaoaffaa
open Go.RowKit
section
variable {ops : Array Oper} {S : World → Prop} {o : Oper} {a : Act}
theorem y_move (hw : Region.wanted o (yielded ops a.tmps) = true) (x : Operand) (ho : o.op = .move x) (v : Value) (hx : a.eval x = v) : YieldsIf Try.prog ops S o v a :=
  .inl ⟨hw, fun w _ => by unfold execOp; simp only [ho, hx]; rfl⟩
theorem y_assign (hw : Region.wanted o (yielded ops a.tmps) = true) (x : Operand) (ho : o.op = .assign x) (v : Value) (hx : a.eval x = v) : YieldsIf Try.prog ops S o v a :=
  .inl ⟨hw, fun w _ => by unfold execOp; simp only [ho, hx]; rfl⟩
theorem y_no (hw : Region.wanted o (yielded ops a.tmps) = false) : YieldsIf Try.prog ops S o undef a := .inr ⟨hw, rfl⟩
theorem y_pick_t (hw : Region.wanted o (yielded ops a.tmps) = true) (x y z : Operand) (ho : o.op = .pick x y z) (v : Value) (hx : a.eval x = .bool true) (hy : a.eval y = v) : YieldsIf Try.prog ops S o v a :=
  .inl ⟨hw, fun w _ => by
    unfold execOp
    simp only [ho, hx, hy]
    go_simp⟩
theorem y_pick_f (hw : Region.wanted o (yielded ops a.tmps) = true) (x y z : Operand) (ho : o.op = .pick x y z) (v : Value) (hx : a.eval x = .bool false) (hz : a.eval z = v) : YieldsIf Try.prog ops S o v a :=
  .inl ⟨hw, fun w _ => by
    unfold execOp
    simp only [ho, hx, hz]
    go_simp⟩
theorem y_notT (hw : Region.wanted o (yielded ops a.tmps) = true) (x : Operand) (ho : o.op = .unOp .not 4 x) (hx : a.eval x = .bool true) : YieldsIf Try.prog ops S o (.bool false) a :=
  .inl ⟨hw, fun w _ => by
    unfold execOp
    simp only [ho, hx]
    go_simp⟩
theorem y_conv (hw : Region.wanted o (yielded ops a.tmps) = true) (x : Operand) (ho : o.op = .convert 22 9 x) (v u : Value) (hx : a.eval x = v) (hS : ∀ w, S w → (convert 22 9 v).run Try.prog w = .ok u w) : YieldsIf Try.prog ops S o u a :=
  .inl ⟨hw, fun w hs => by
    have c := hS w hs
    unfold execOp
    simp only [ho, hx]
    go_simp⟩
theorem y_eqlS (hw : Region.wanted o (yielded ops a.tmps) = true) (x y : Operand) (ho : o.op = .binOp .eql 9 x y 9) (s : ByteArray) (hx : a.eval x = .string s) (hy : a.eval y = .string s) : YieldsIf Try.prog ops S o (.bool true) a :=
  .inl ⟨hw, fun w _ => by
    unfold execOp
    simp only [ho, hx, hy]
    go_simp⟩
theorem y_neqS (hw : Region.wanted o (yielded ops a.tmps) = true) (x y : Operand) (ho : o.op = .binOp .neq 9 x y 9) (s : ByteArray) (hx : a.eval x = .string s) (hy : a.eval y = .string s) : YieldsIf Try.prog ops S o (.bool false) a :=
  .inl ⟨hw, fun w _ => by
    unfold execOp
    simp only [ho, hx, hy]
    go_simp⟩
theorem y_eqlI (hw : Region.wanted o (yielded ops a.tmps) = true) (x y : Operand) (ho : o.op = .binOp .eql 3 x y 3) (d : Int) (hx : a.eval x = .int .i64 d) (hy : a.eval y = .int .i64 d) : YieldsIf Try.prog ops S o (.bool true) a :=
  .inl ⟨hw, fun w _ => by
    unfold execOp
    simp only [ho, hx, hy]
    go_simp⟩
theorem y_eqlJ (hw : Region.wanted o (yielded ops a.tmps) = true) (x y : Operand) (ho : o.op = .binOp .eql 2 x y 2) (d : Int) (hx : a.eval x = .int .i64 d) (hy : a.eval y = .int .i64 d) : YieldsIf Try.prog ops S o (.bool true) a :=
  .inl ⟨hw, fun w _ => by
    unfold execOp
    simp only [ho, hx, hy]
    go_simp⟩
theorem y_neqI (hw : Region.wanted o (yielded ops a.tmps) = true) (x y : Operand) (ho : o.op = .binOp .neq 3 x y 3) (d : Int) (hx : a.eval x = .int .i64 d) (hy : a.eval y = .int .i64 d) : YieldsIf Try.prog ops S o (.bool false) a :=
  .inl ⟨hw, fun w _ => by
    unfold execOp
    simp only [ho, hx, hy]
    go_simp⟩
theorem y_field25 (hw : Region.wanted o (yielded ops a.tmps) = true) (x : Operand) (ho : o.op = .fieldAddr 51 x 1) (g : Nat) (hx : a.eval x = .pointer (some ⟨g, 0, none⟩)) : YieldsIf Try.prog ops S o (.pointer (some ⟨g, 1, none⟩)) a :=
  .inl ⟨hw, fun w _ => by
    unfold execOp
    simp only [ho, hx]
    go_simp⟩
theorem y_loadB (hw : Region.wanted o (yielded ops a.tmps) = true) (x : Operand) (ho : o.op = .load 22 x) (g p : Nat) (hx : a.eval x = .pointer (some ⟨g, p, none⟩)) (v : Value) (hS : ∀ w, S w → w.cell? ⟨g, p, none⟩ = some v) : YieldsIf Try.prog ops S o v a :=
  .inl ⟨hw, fun w hs => by
    have c := hS w hs
    unfold execOp
    simp only [ho, hx]
    go_simp⟩
theorem y_load25 (hw : Region.wanted o (yielded ops a.tmps) = true) (x : Operand) (ho : o.op = .load 51 x) (g : Nat) (hx : a.eval x = .pointer (some ⟨g, 0, none⟩)) (u v z : Value) (hS : ∀ w, S w → w.cell? ⟨g, 0, none⟩ = some u ∧ w.cell? ⟨g, 1, none⟩ = some v ∧ w.cell? ⟨g, 2, none⟩ = some z) : YieldsIf Try.prog ops S o (.agg #[u, v, z]) a :=
  yieldsIf_load_mid hw _ _ ho g 0 hx [u, v, z] _ (fun w hs => range3 (hS w hs).1 (hS w hs).2.1 (hS w hs).2.2) Try.underlying51 rfl info25s
/-- a call of a function of one argument -/
theorem r_call1 {Q : Exit → Act → World → Prop} {w : World} {K : Act → World → Prop} {E : Prop} (f : Nat) (x : Operand) (ts : Array TypeId) (ho : o.op = .call { callee := .value (.func f), args := #[x], argTypes := ts }) (hw : Region.wanted o (yielded ops a.tmps) = true) (u : Value) (hx : a.eval x = u)
    (eg : ∀ args w, (callFunc f args).run Try.prog w = .ok (.enter f args) w) (hc : Calls Try.prog f #[u] w fun e w' => ∃ z, e = .returned z ∧ K (a.put o.dst z) w') :
    if Region.wanted o (yielded ops a.tmps) = true then Oper.wp Try.prog o a w K Q else E := by
  rw [if_pos hw]
  have e : (execOp a.eval o).run Try.prog w = .ok (.enter f #[u]) w := by
    unfold execOp
    have := eg #[u] w
    simp only [ho, resolve, List.map_toArray, List.map_cons, List.map_nil, hx]
    go_simp
  unfold Oper.wp
  rw [e, Oper.upon_enter]
  refine hc.mono ?_
  rintro _ w' ⟨z, rfl, h⟩
  exact h
/-- a call of a function of two arguments -/
theorem r_call2 {Q : Exit → Act → World → Prop} {w : World} {K : Act → World → Prop} {E : Prop} (f : Nat) (x y : Operand) (ts : Array TypeId) (ho : o.op = .call { callee := .value (.func f), args := #[x, y], argTypes := ts }) (hw : Region.wanted o (yielded ops a.tmps) = true) (u v : Value) (hx : a.eval x = u) (hy : a.eval y = v)
    (eg : ∀ args w, (callFunc f args).run Try.prog w = .ok (.enter f args) w) (hc : Calls Try.prog f #[u, v] w fun e w' => ∃ z, e = .returned z ∧ K (a.put o.dst z) w') :
    if Region.wanted o (yielded ops a.tmps) = true then Oper.wp Try.prog o a w K Q else E := by
  rw [if_pos hw]
  have e : (execOp a.eval o).run Try.prog w = .ok (.enter f #[u, v]) w := by
    unfold execOp
    have := eg #[u, v] w
    simp only [ho, resolve, List.map_toArray, List.map_cons, List.map_nil, hx, hy]
    go_simp
  unfold Oper.wp
  rw [e, Oper.upon_enter]
  refine hc.mono ?_
  rintro _ w' ⟨z, rfl, h⟩
  exact h
end
end Go.Proofs.Ytpiinkfcaoaffaa
