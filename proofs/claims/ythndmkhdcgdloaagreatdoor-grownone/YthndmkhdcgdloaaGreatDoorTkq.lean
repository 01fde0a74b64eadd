import Derived.Test.YthndmkhdcgdloaaGreatDoorHkq
import Derived.Deep.RegionHeld3
/-
  The compact kit for regions that draw their order: takes, readies, laws of one operation, side conditions as defaults.
-/
set_option maxRecDepth 100000
namespace Go.Proofs.YthndmkhdcgdloaaGreatDoor.Z
open Go.RowKit
section
variable {P : Program} {md : Region.Mode} {ops : Array Oper} {Q : Exit → Act → World → Prop} {S : World → Prop} {fuel : Nat} {listed : Array Bool} {a : Act} {w : World}
theorem ly {G H : Prop} (h : H) (e : H → G := by (intro h; (try simp only [Act.put, List.setIfInBounds_toArray, List.set_cons_zero, List.set_cons_succ]); exact h)) : G := e h
theorem tk (i : Nat) (v : Value) {oi : Oper} (hi : ops[i]? = some oi := by (simp only [List.getElem?_toArray, List.getElem?_cons_zero, List.getElem?_cons_succ]; rfl)) (y : YieldsIf P ops S oi v a) (s : S w) (h : wpAnyH P md ops Q S fuel (listed.setIfInBounds i true) (a.put oi.dst v) w) (hs : Region.noSelect ops = true := by kernel_rfl) (hf : Region.free md ops listed i = true := by kernel_rfl) (hr : (Region.ready md ops listed).contains i = true := by kernel_rfl) (hQ : ∀ c a w, Q (.panic c) (a.put oi.dst v) w → Q (.panic c) a w := by exact fun _ _ _ h => h) : wpAnyH P md ops Q S (fuel + 1) listed a w := wpAnyH_take hi hs hf hr hQ y s h
theorem r1 (i : Nat) {o : Oper} (h : ∀ K' : Act → World → Prop, Shut (∀ a w, S w → (S w → wpAnyH P md ops Q S fuel (listed.setIfInBounds i true) a w) → K' a w) → if Region.wanted o (yielded ops a.tmps) = true then Oper.wp P o a w K' Q else K' (a.put o.dst undef) w) (hr : Region.ready md ops listed = [i] := by kernel_rfl) (ho : ops[i]? = some o := by (simp only [List.getElem?_toArray, List.getElem?_cons_zero, List.getElem?_cons_succ]; rfl)) : wpAnyH P md ops Q S (fuel + 1) listed a w := wpAnyH_ready hr (by simp) (AllReadyH.cons ho h AllReadyH.nil)
theorem r2 (i j : Nat) {o p : Oper} (h : ∀ K' : Act → World → Prop, Shut (∀ a w, S w → (S w → wpAnyH P md ops Q S fuel (listed.setIfInBounds i true) a w) → K' a w) → if Region.wanted o (yielded ops a.tmps) = true then Oper.wp P o a w K' Q else K' (a.put o.dst undef) w) (k : ∀ K' : Act → World → Prop, Shut (∀ a w, S w → (S w → wpAnyH P md ops Q S fuel (listed.setIfInBounds j true) a w) → K' a w) → if Region.wanted p (yielded ops a.tmps) = true then Oper.wp P p a w K' Q else K' (a.put p.dst undef) w) (hr : Region.ready md ops listed = [i, j] := by kernel_rfl) (ho : ops[i]? = some o := by (simp only [List.getElem?_toArray, List.getElem?_cons_zero, List.getElem?_cons_succ]; rfl)) (hp : ops[j]? = some p := by (simp only [List.getElem?_toArray, List.getElem?_cons_zero, List.getElem?_cons_succ]; rfl)) : wpAnyH P md ops Q S (fuel + 1) listed a w := wpAnyH_ready hr (by simp) (AllReadyH.cons ho h (AllReadyH.cons hp k AllReadyH.nil))
end
section
variable {ops : Array Oper} {S : World → Prop} {o : Oper} {a : Act}
theorem y_move {x : Operand} {v : Value} (ho : o.op = .move x := by rfl) (hx : a.eval x = v := by rfl) (hw : Region.wanted o (yielded ops a.tmps) = true := by kernel_rfl) : YieldsIf Tryz.prog ops S o v a :=
  .inl ⟨hw, fun w hs => by
    unfold execOp
    simp only [ho, hx]
    rfl⟩
theorem y_assign {x : Operand} {v : Value} (ho : o.op = .assign x := by rfl) (hx : a.eval x = v := by rfl) (hw : Region.wanted o (yielded ops a.tmps) = true := by kernel_rfl) : YieldsIf Tryz.prog ops S o v a :=
  .inl ⟨hw, fun w hs => by
    unfold execOp
    simp only [ho, hx]
    rfl⟩
theorem y_ext {x : Operand} {i : Nat} {vs : Array Value} {v : Value} (ho : o.op = .extract x i := by rfl) (hx : a.eval x = .tuple vs := by rfl) (hv : vs[i]? = some v := by rfl) (hw : Region.wanted o (yielded ops a.tmps) = true := by kernel_rfl) : YieldsIf Tryz.prog ops S o v a :=
  .inl ⟨hw, fun w hs => by
    unfold execOp
    simp only [ho, hx, Instr.extract, hv]
    rfl⟩
theorem y_ldH {x : Operand} {g p : Nat} (cs : List Value) (hc : Hc cs) (hS : ∀ w, S w → w.rangeAt g p cs) (ho : o.op = .load 24 x := by rfl) (hx : a.eval x = .pointer (some ⟨g, p, none⟩) := by rfl) (hw : Region.wanted o (yielded ops a.tmps) = true := by kernel_rfl) : YieldsIf Tryz.prog ops S o (.agg cs.toArray) a :=
  yieldsIf_load_mid hw _ _ ho g p hx cs _ hS Tryz.underlying24 rfl (by rw [hc.len]; exact iH)
end
section
variable {ops : Array Oper} {o : Oper} {a : Act} {Q : Exit → Act → World → Prop} {w : World} {K : Act → World → Prop} {E : Prop}
theorem r_val (v : Value) (w' : World) (hr : (execOp a.eval o).run Tryz.prog w = .ok (.value v) w') (h : K (a.put o.dst v) w') (hw : Region.wanted o (yielded ops a.tmps) = true := by kernel_rfl) : if Region.wanted o (yielded ops a.tmps) = true then Oper.wp Tryz.prog o a w K Q else E := by
  rw [if_pos hw]
  unfold Oper.wp
  rw [hr]
  exact h
theorem r_alloc {t : TypeId} {cs : Array Value} (hz : ∀ w : World, (zeroValue t).run Tryz.prog w = .ok (.agg cs) w) (h : K (a.put o.dst (.pointer (some ⟨w.heap.size, 0, none⟩))) (w.alloc (.cells cs t))) (ho : o.op = .alloc t := by rfl) (hw : Region.wanted o (yielded ops a.tmps) = true := by kernel_rfl) :
    if Region.wanted o (yielded ops a.tmps) = true then Oper.wp Tryz.prog o a w K Q else E := by
  refine r_val _ _ ?_ h hw
  unfold execOp
  simp only [ho]
  go_simp
theorem r_call (f : Nat) (xs : List Operand) (ts : Array TypeId) (us : List Value) (ho : o.op = .call { callee := .value (.func f), args := xs.toArray, argTypes := ts }) (hx : xs.map a.eval = us) (eg : ∀ args w, (callFunc f args).run Tryz.prog w = .ok (.enter f args) w) (hc : Calls Tryz.prog f us.toArray w fun e w' => ∃ z, e = .returned z ∧ K (a.put o.dst z) w') (hw : Region.wanted o (yielded ops a.tmps) = true := by kernel_rfl) :
    if Region.wanted o (yielded ops a.tmps) = true then Oper.wp Tryz.prog o a w K Q else E := by
  rw [if_pos hw]
  have e : (execOp a.eval o).run Tryz.prog w = .ok (.enter f us.toArray) w := by
    unfold execOp
    have := eg us.toArray w
    simp only [ho, resolve, List.map_toArray, hx]
    go_simp
  unfold Oper.wp
  rw [e, Oper.upon_enter]
  refine hc.mono ?_
  rintro _ w' ⟨z, rfl, hz⟩
  exact hz
theorem r_stH {x y : Operand} (b : Nat) (cs old : List Value) (hc : Hc cs) (hd : Hc old) (hb : w.heap[b]? = some (.cells old.toArray 24 (0, 0))) (h : K (a.put o.dst undef) (w.setRow b cs.toArray)) (ho : o.op = .store 24 x y := by rfl) (hx : a.eval x = .pointer (some ⟨b, 0, none⟩) := by rfl) (hy : a.eval y = .agg cs.toArray := by rfl) (hw : Region.wanted o (yielded ops a.tmps) = true := by kernel_rfl) :
    if Region.wanted o (yielded ops a.tmps) = true then Oper.wp Tryz.prog o a w K Q else E := by
  rw [if_pos hw]
  exact wp_store_row 24 x y ho b cs.toArray hx hy 24 old.toArray hb (by rw [List.size_toArray, hc.len]; exact iH) (by rw [List.size_toArray, List.size_toArray, hc.len, hd.len]) hc.one h
end
end Go.Proofs.YthndmkhdcgdloaaGreatDoor.Z
