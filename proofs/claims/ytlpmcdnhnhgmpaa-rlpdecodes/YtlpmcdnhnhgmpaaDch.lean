/-
  RlpDecodes: what its law needs.
-/
import Derived.Test.YtlpmcdnhnhgmpaaSmd
import Derived.Test.YtlpmcdnhnhgmpaaRnd
import Derived.Test.YtlpmcdnhnhgmpaaAw
namespace Go.Proofs.Ytlpmcdnhnhgmpaa
open Go.RowKit

theorem nodes_form : ∀ x : It, may x = true → nodes x ≤ (form x).length := by
  refine It.ind (fun l b xs ih => ?_)
  intro hm
  rw [nodes_mk]
  cases l with
  | false =>
    have e : xs = [] := (form_ok hm).2 rfl
    subst e
    rw [nodesL_nil]
    exact form_pos _
  | true =>
    have hmx : ∀ x ∈ xs, may x = true := by
      rw [may_mk] at hm
      simp at hm
      exact (mayL_iff xs).1 hm.2
    have key : ∀ ys : List It, (∀ x ∈ ys, x ∈ xs) → nodesL ys ≤ (forms ys).length := by
      intro ys
      induction ys with
      | nil => intro _; rw [nodesL_nil, forms_nil]; simp
      | cons y t iht =>
        intro hin
        have h1 := ih y (hin y (by simp)) (hmx y (hin y (by simp)))
        have h2 := iht (fun x hx => hin x (by simp [hx]))
        rw [nodesL_cons, forms_cons, List.length_append]
        omega
    have h1 := key xs (fun x hx => hx)
    have h2 := hdr_pos 192 (forms xs).length
    rw [form_mk]
    simp only [if_true]
    rw [List.length_append]
    omega
theorem nodes_dec {s : List Nat} (hs : ∀ x ∈ s, x < 256) : nodes (decX s) ≤ 1048577 := by
  cases hd : dec s with
  | bad p e =>
    have : decX s = .mk false [] [] := by unfold decX; rw [hd]
    rw [this, nodes_mk, nodesL_nil]
    omega
  | ok x =>
    have ex : decX s = x := by unfold decX; rw [hd]
    rw [ex]
    unfold dec at hd
    split at hd
    · cases hd
    · rename_i hb
      cases hr : rd s 80 0 s.length with
      | bad p e => rw [hr] at hd; cases hd
      | ok y z =>
        rw [hr] at hd
        dsimp only at hd
        split at hd
        · cases hd
        · injection hd with hd
          subst hd
          have h := rd_ok hs 80 0 s.length y z (Nat.le_refl _) (Nat.zero_le _) hr
          have h1 := nodes_form y h.2.2.1
          have hz := h.2.1
          rw [h.2.2.2.2, cut_len (by omega)] at h1
          omega
/-- three items side by side in a new row -/
theorem ch3_mk {w : World} {x y z : It} {a1 a2 a3 a4 a5 a6 : Value} {l1 h1 l2 h2 l3 h3 : Nat} (hx : Own w l1 h1 x a1 a2) (hy : Own w l2 h2 y a3 a4) (hz : Own w l3 h3 z a5 a6) (q1 : l1 ≤ h1) (q2 : h1 ≤ l2) (q3 : l2 ≤ h2) (q4 : h2 ≤ l3) (q5 : l3 ≤ h3) (q6 : h3 ≤ w.heap.size) :
    Ch (w.alloc (.cells #[.bool x.l, a1, a2, .bool y.l, a3, a4, .bool z.l, a5, a6] 25)) l1 (w.heap.size + 1) [x, y, z] (some ⟨w.heap.size, 0, none⟩) w.heap.size 0 [(x.l, a1, a2), (y.l, a3, a4), (z.l, a5, a6)] (fun i => if i = 0 then l1 else if i = 1 then l2 else l3) (fun i => if i = 0 then h1 else if i = 1 then h2 else h3) := by
  have k := below_alloc w (.cells #[.bool x.l, a1, a2, .bool y.l, a3, a4, .bool z.l, a5, a6] 25)
  have c : ∀ j, (w.alloc (.cells #[.bool x.l, a1, a2, .bool y.l, a3, a4, .bool z.l, a5, a6] 25)).cell? ⟨w.heap.size, j, none⟩ = #[.bool x.l, a1, a2, .bool y.l, a3, a4, .bool z.l, a5, a6][j]? := fun j => cell_of_row _ _ _ _ _ _ (heap_alloc_new w _)
  refine ⟨fun _ => ⟨rfl, by omega⟩, by simp, rfl, fun i hi => ?_, fun i hi => ?_, fun i hi => ?_, fun i hi => ?_, fun i x' y' hx' hy' => ?_, fun i x' y' hx' hy' => ?_, fun i y' hy' => ?_⟩
  · match i, hi with
    | 0, _ => exact Nat.le_refl _
    | 1, _ => show l1 ≤ l2; omega
    | 2, _ => show l1 ≤ l3; omega
  · match i, hi with
    | 0, _ => exact q2
    | 1, _ => exact q4
  · match i, hi with
    | 0, _ => show h1 ≤ _; omega
    | 1, _ => show h2 ≤ _; omega
    | 2, _ => show h3 ≤ _; omega
  · match i, hi with
    | 0, _ => exact q1
    | 1, _ => exact q3
    | 2, _ => exact q5
  · match i with
    | 0 => simp at hx' hy'; subst hx'; subst hy'; rfl
    | 1 => simp at hx' hy'; subst hx'; subst hy'; rfl
    | 2 => simp at hx' hy'; subst hx'; subst hy'; rfl
    | i + 3 => simp at hx'
  · match i with
    | 0 => simp at hx' hy'; subst hx'; subst hy'; exact hx.keep k (by omega)
    | 1 => simp at hx' hy'; subst hx'; subst hy'; exact hy.keep k (by omega)
    | 2 => simp at hx' hy'; subst hx'; subst hy'; exact hz.keep k (by omega)
    | i + 3 => simp at hx'
  · match i with
    | 0 => simp at hy'; subst hy'; exact ⟨c 0, c 1, c 2⟩
    | 1 => simp at hy'; subst hy'; exact ⟨c 3, c 4, c 5⟩
    | 2 => simp at hy'; subst hy'; exact ⟨c 6, c 7, c 8⟩
    | i + 3 => simp at hy'
theorem fillB4 (a0 a1 a2 a3 : Option Addr) (n0 n1 n2 n3 c0 c1 c2 c3 : Nat) : Instr.fill (fun i => some (i * 1, 1)) ((Array.range (4 * 1)).map (nilS.cells[· % nilS.cells.size]!)) [(0, .slice a0 n0 c0), (1, .slice a1 n1 c1), (2, .slice a2 n2 c2), (3, .slice a3 n3 c3)] = some #[.slice a0 n0 c0, .slice a1 n1 c1, .slice a2 n2 c2, .slice a3 n3 c3] := by kernel_rfl
theorem fillI3 (b0 b1 b2 : Bool) (a0 a1 a2 a3 a4 a5 : Option Addr) (n0 n1 n2 n3 n4 n5 c0 c1 c2 c3 c4 c5 : Nat) : Instr.fill (fun i => some (i * 3, 3)) ((Array.range (3 * 3)).map ((Value.agg #[.bool false, nilS, nilS]).cells[· % (Value.agg #[.bool false, nilS, nilS]).cells.size]!)) [(0, .agg #[.bool b0, .slice a0 n0 c0, .slice a1 n1 c1]), (1, .agg #[.bool b1, .slice a2 n2 c2, .slice a3 n3 c3]), (2, .agg #[.bool b2, .slice a4 n4 c4, .slice a5 n5 c5])] = some #[.bool b0, .slice a0 n0 c0, .slice a1 n1 c1, .bool b1, .slice a2 n2 c2, .slice a3 n3 c3, .bool b2, .slice a4 n4 c4, .slice a5 n5 c5] := by kernel_rfl
theorem fill123 : Instr.fill (fun i => some (i * 1, 1)) ((Array.range (3 * 1)).map ((Value.int .u8 0).cells[· % (Value.int .u8 0).cells.size]!)) [(0, .int .u8 1), (1, .int .u8 2), (2, .int .u8 3)] = some #[.int .u8 1, .int .u8 2, .int .u8 3] := by kernel_rfl
section
variable {ops : Array Oper} {S : World → Prop} {o : Oper} {a : Act}
theorem r_build4 {Q : Exit → Act → World → Prop} {w : World} {K : Act → World → Prop} {E : Prop} (y0 y1 y2 y3 : Operand) (ho : o.op = .buildSlice 50 4 #[(0, y0), (1, y1), (2, y2), (3, y3)]) (hw : Region.wanted o (yielded ops a.tmps) = true) (a0 a1 a2 a3 : Option Addr) (n0 n1 n2 n3 c0 c1 c2 c3 : Nat)
    (e0 : a.eval y0 = .slice a0 n0 c0) (e1 : a.eval y1 = .slice a1 n1 c1) (e2 : a.eval y2 = .slice a2 n2 c2) (e3 : a.eval y3 = .slice a3 n3 c3)
    (h : K (a.put o.dst (.slice (some ⟨w.heap.size, 0, none⟩) 4 4)) (w.alloc (.cells #[.slice a0 n0 c0, .slice a1 n1 c1, .slice a2 n2 c2, .slice a3 n3 c3] 22))) :
    if Region.wanted o (yielded ops a.tmps) = true then Oper.wp Try.prog o a w K Q else E := by
  rw [if_pos hw]
  obtain ⟨i0, hi0, hz0, hz1, hz2⟩ := info_parts infoB
  refine wp_buildSlice 50 22 4 _ ho _ i0 _ Try.underlying50 hi0 hz0 (by rw [hz1]; decide) (by rw [hz1]; decide) ?_ h
  rw [hz1]
  simp only [List.map_toArray, List.map_cons, List.map_nil, e0, e1, e2, e3]
  exact fillB4 _ _ _ _ _ _ _ _ _ _ _ _
theorem r_buildI3 {Q : Exit → Act → World → Prop} {w : World} {K : Act → World → Prop} {E : Prop} (y0 y1 y2 : Operand) (ho : o.op = .buildSlice 23 3 #[(0, y0), (1, y1), (2, y2)]) (hw : Region.wanted o (yielded ops a.tmps) = true) (b0 b1 b2 : Bool) (a0 a1 a2 a3 a4 a5 : Option Addr) (n0 n1 n2 n3 n4 n5 c0 c1 c2 c3 c4 c5 : Nat)
    (e0 : a.eval y0 = .agg #[.bool b0, .slice a0 n0 c0, .slice a1 n1 c1]) (e1 : a.eval y1 = .agg #[.bool b1, .slice a2 n2 c2, .slice a3 n3 c3]) (e2 : a.eval y2 = .agg #[.bool b2, .slice a4 n4 c4, .slice a5 n5 c5])
    (h : K (a.put o.dst (.slice (some ⟨w.heap.size, 0, none⟩) 3 3)) (w.alloc (.cells #[.bool b0, .slice a0 n0 c0, .slice a1 n1 c1, .bool b1, .slice a2 n2 c2, .slice a3 n3 c3, .bool b2, .slice a4 n4 c4, .slice a5 n5 c5] 25))) :
    if Region.wanted o (yielded ops a.tmps) = true then Oper.wp Try.prog o a w K Q else E := by
  rw [if_pos hw]
  obtain ⟨i0, hi0, hz0, hz1, hz2⟩ := info_parts infoIt
  refine wp_buildSlice 23 25 3 _ ho _ i0 _ Try.underlying23 hi0 hz0 (by rw [hz1]; decide) (by rw [hz1]; decide) ?_ h
  rw [hz1]
  simp only [List.map_toArray, List.map_cons, List.map_nil, e0, e1, e2]
  exact fillI3 _ _ _ _ _ _ _ _ _ _ _ _ _ _ _ _ _ _ _ _ _
theorem r_build0 {Q : Exit → Act → World → Prop} {w : World} {K : Act → World → Prop} {E : Prop} (ho : o.op = .buildSlice 22 0 #[]) (hw : Region.wanted o (yielded ops a.tmps) = true)
    (h : K (a.put o.dst (.slice (some ⟨w.heap.size, 0, none⟩) 0 0)) (w.alloc (.cells #[] 5))) :
    if Region.wanted o (yielded ops a.tmps) = true then Oper.wp Try.prog o a w K Q else E := by
  rw [if_pos hw]
  have e : (execOp a.eval o).run Try.prog w = .ok (.value (.slice (some ⟨w.heap.size, 0, none⟩) 0 0)) (w.alloc (.cells #[] 5)) := by
    unfold execOp
    simp only [ho]
    go_simp
  unfold Oper.wp
  rw [e]
  exact h
theorem r_build123 {Q : Exit → Act → World → Prop} {w : World} {K : Act → World → Prop} {E : Prop} (ho : o.op = .buildSlice 22 3 #[(0, .const (.int .u8 1)), (1, .const (.int .u8 2)), (2, .const (.int .u8 3))]) (hw : Region.wanted o (yielded ops a.tmps) = true)
    (h : K (a.put o.dst (.slice (some ⟨w.heap.size, 0, none⟩) 3 3)) (w.alloc (.cells #[.int .u8 1, .int .u8 2, .int .u8 3] 5))) :
    if Region.wanted o (yielded ops a.tmps) = true then Oper.wp Try.prog o a w K Q else E := by
  rw [if_pos hw]
  obtain ⟨i0, hi0, hz0, hz1, hz2⟩ := info_parts Try.info5
  refine wp_buildSlice 22 5 3 _ ho _ i0 _ Try.underlying22 hi0 hz0 (by rw [hz1]; decide) (by rw [hz1]; decide) ?_ h
  rw [hz1]
  simp only [List.map_toArray, List.map_cons, List.map_nil, Act.eval]
  exact fill123
/-- bytes appended, in a region that draws its order, whatever the guard -/
theorem step_append_bytes' {w : World} {K : Act → World → Prop} {Q : Exit → Act → World → Prop} {E : Prop} (hw : Region.wanted o (yielded ops a.tmps) = true) (s x : Operand)
    (ho : o.op = .call { callee := .builtin .append, args := #[s, x], argTypes := #[22, 22] }) (base : Nat) (v : Value) (k : Nat) (xs : List Value) (hs : a.eval s = v) (hown : w.ownsRow base 5 1 v k xs)
    (sa : Option Addr) (b off n c : Nat) (Y : Nat → Int) (hx : a.eval x = .slice sa n c) (hv : View w sa b off n Y) (hnil : sa = none → c = 0) (hk : k + n ≤ 140737488355328) (hbase : base ≤ w.heap.size)
    (h : ∀ v' w', w'.ownsRow base 5 1 v' (k + n) (xs ++ vals Y n) → w.grownBy w' v.ownBlock → K (a.put o.dst v') w') : if Region.wanted o (yielded ops a.tmps) = true then Oper.wp Try.prog o a w K Q else E := by
  rw [if_pos hw]
  obtain ⟨i0, hi0, hz0, hz1, hz2⟩ := info_parts Try.info5
  cases sa with
  | none =>
    have hn : n = 0 := by
      rcases Nat.eq_zero_or_pos n with e | e
      · exact e
      · cases hv.at_ e
    subst hn
    obtain rfl := hnil rfl
    have hrun := run_append_owned_none (P := Try.prog) (w := w) base 22 o.type 5 i0 1 Try.underlying22 hi0 v k xs hown
    unfold Oper.wp
    simp [execOp, ho, resolve, invoke, builtin, hs, hx, hrun, Result.andThen]
    refine h v w ?_ ⟨rfl, rfl, rfl, Nat.le_refl _, fun _ _ _ => rfl⟩
    simpa [vals] using hown
  | some p =>
    refine wp_append_own _ s x 22 ho base 5 i0 (.int .u8 0) 1 1 Try.underlying22 hi0 hz0 hz1 hz2 rfl (by decide) v k xs hs hown p n c (vals Y n) hx (by simp [vals]) ?_ vals_one (by unfold maxLen; omega) (by omega) hbase (fun v' w' h1 h2 _ => h v' w' h1 h2)
    intro j u hu
    obtain ⟨hj, rfl⟩ := vals_cell hu
    have hp : p = ⟨b, off, none⟩ := Option.some.inj (hv.at_ (by omega))
    subst hp
    rw [Go.WideShapes.add_plain]
    exact hv.cell j hj
end
theorem view123 (w : World) : View (w.alloc (.cells #[.int .u8 1, .int .u8 2, .int .u8 3] 5)) (some ⟨w.heap.size, 0, none⟩) w.heap.size 0 3 (fun i => ((gd [1, 2, 3] i : Nat) : Int)) := vw_row (s := [1, 2, 3]) (fr := (0, 0)) (heap_alloc_new w _) (by decide) (by decide)
theorem eSmud : ∀ args w, (callFunc 17 args).run Try.prog w = .ok (.enter 17 args) w := enters_of Try.func17 (by kernel_rfl) rfl
end Go.Proofs.Ytlpmcdnhnhgmpaa
