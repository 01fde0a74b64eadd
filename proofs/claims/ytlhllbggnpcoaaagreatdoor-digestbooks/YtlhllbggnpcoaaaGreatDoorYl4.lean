import Derived.Test.YtlhllbggnpcoaaaGreatDoorRNw
import Derived.Test.YtlhllbggnpcoaaaGreatDoorRHc
import Derived.Test.YtlhllbggnpcoaaaGreatDoorBk
import Derived.Test.YtlhllbggnpcoaaaGreatDoorFac
import Derived.Test.YtlhllbggnpcoaaaGreatDoorYl2
import Derived.Great.BuildSlice
/-
  The reference's book in memory.
-/
namespace Go.Proofs.YtlhllbggnpcoaaaGreatDoor
open Go.RowKit Go.Sort Go.Maps

def rbc (bits cbits : Nat) (s h c f : Value) : Nat → Value
  | 0 => .int .i64 bits
  | 1 => .int .i64 cbits
  | 2 => s
  | 3 => h
  | 4 => c
  | _ => f
structure RBk (w : World) (B qb : Nat) (st : Bst) (F : Nat → Prop) (sa : Option Addr) (sB sc : Nat) (ah : Option Addr) (ch : Nat) (ac : Option Addr) (cc : Nat) (af : Option Addr) (cf : Nat) (Qh Qc Qf : List FG) : Prop where
  row : w.rowIs qb 79 6 (rbc st.bits st.cbits (.slice sa 32 sc) (.slice ah Qh.length ch) (.slice ac Qc.length cc) (.slice af Qf.length cf))
  sec : View w sa sB 0 32 (fun i => (st.S i : Int))
  secF : F sB
  nh : NL w F (.slice ah Qh.length ch) Qh
  nc : NL w F (.slice ac Qc.length cc) Qc
  nf : NL w F (.slice af Qf.length cf) Qf
  eh : Qh.map FG.s = st.LH
  ec : Qc.map FG.s = st.LC
  ef : Qf.map FG.s = st.LF
  kh_ : ∀ q ∈ Qh, q.k = kh st.bits q.s
  kc_ : ∀ q ∈ Qc, q.k = kc st.cbits st.S q.s
  kf_ : ∀ q ∈ Qf, q.k = kc st.cbits st.S q.s
  rh : Ris st.LH
  rc : Ris st.LC
  rf : Ris st.LF
  lim : ∀ i, F i → B ≤ i ∧ i < w.heap.size
  base : B ≤ qb
  out : ¬ F qb
  b1 : 8 ≤ st.bits ∧ st.bits ≤ 256
  b2 : 8 ≤ st.cbits ∧ st.cbits ≤ 256
  S8 : ∀ i, st.S i < 256
/-- A BOOK OF THE REFERENCE: all that its lists hold lies in F's blocks. -/
def RB (w : World) (B qb : Nat) (st : Bst) (F : Nat → Prop) : Prop := ∃ sa sB sc ah ch ac cc af cf Qh Qc Qf, RBk w B qb st F sa sB sc ah ch ac cc af cf Qh Qc Qf

section
variable {w w' : World} {B qb : Nat} {st : Bst} {F G : Nat → Prop} {sa : Option Addr} {sB sc : Nat} {ah : Option Addr} {ch : Nat} {ac : Option Addr} {cc : Nat} {af : Option Addr} {cf : Nat} {Qh Qc Qf : List FG}
theorem RBk.turn (h : RBk w B qb st F sa sB sc ah ch ac cc af cf Qh Qc Qf) (t : Turn G w w') (hq : ¬ G qb) (hd : ∀ i, F i → ¬ G i) : RBk w' B qb st F sa sB sc ah ch ac cc af cf Qh Qc Qf :=
  { h with
    row := h.row.of_block (t.block qb h.row.lt hq)
    sec := h.sec.turn t (fun _ => hd sB h.secF)
    nh := h.nh.turn t hd
    nc := h.nc.turn t hd
    nf := h.nf.turn t hd
    lim := fun i q => ⟨(h.lim i q).1, Nat.lt_of_lt_of_le (h.lim i q).2 t.size⟩ }
theorem RBk.below (h : RBk w B qb st F sa sB sc ah ch ac cc af cf Qh Qc Qf) (hb : Below w.heap.size w w') : RBk w' B qb st F sa sB sc ah ch ac cc af cf Qh Qc Qf := h.turn (Turn.of_below hb (F := fun _ => False)) (fun q => q) (fun _ _ q => q)
theorem RBk.mono {F' : Nat → Prop} (h : RBk w B qb st F sa sB sc ah ch ac cc af cf Qh Qc Qf) (hf : ∀ i, F i → F' i) (hl : ∀ i, F' i → B ≤ i ∧ i < w.heap.size) (ho : ¬ F' qb) : RBk w B qb st F' sa sB sc ah ch ac cc af cf Qh Qc Qf :=
  { h with secF := hf _ h.secF, nh := h.nh.mono hf, nc := h.nc.mono hf, nf := h.nf.mono hf, lim := hl, out := ho }
theorem RB.turn (h : RB w B qb st F) (t : Turn G w w') (hq : ¬ G qb) (hd : ∀ i, F i → ¬ G i) : RB w' B qb st F := by
  obtain ⟨sa, sB, sc, ah, ch, ac, cc, af, cf, Qh, Qc, Qf, h⟩ := h
  exact ⟨sa, sB, sc, ah, ch, ac, cc, af, cf, Qh, Qc, Qf, h.turn t hq hd⟩
theorem RB.below (h : RB w B qb st F) (hb : Below w.heap.size w w') : RB w' B qb st F := h.turn (Turn.of_below hb (F := fun _ => False)) (fun q => q) (fun _ _ q => q)
/-- one cell of the book's own is set -/
theorem rbk_set (_h : RBk w B qb st F sa sB sc ah ch ac cc af cf Qh Qc Qf) (i : Nat) (v : Value) : Turn (fun i => i = qb) w (w.setCell ⟨qb, i, none⟩ v) := Turn.setCell w ⟨qb, i, none⟩ v rfl
end

/-- A CALL OF THE REFERENCE's BOOK -/
structure RTurned (w w' : World) (B qb : Nat) (st : Bst) (F : Nat → Prop) : Prop where
  book : ∃ F', (∀ i, F i → F' i) ∧ (∀ i, F' i → F i ∨ (w.heap.size ≤ i ∧ i < w'.heap.size)) ∧ RB w' B qb st F'
  turn : Turn (fun i => i = qb) w w'

section
variable {w w1 : World} {B qb : Nat} {st : Bst} {F F' : Nat → Prop} {sa : Option Addr} {sB sc : Nat} {ah : Option Addr} {ch : Nat} {ac : Option Addr} {cc : Nat} {af : Option Addr} {cf : Nat} {Qh Qc Qf Q' : List FG} {av' : Option Addr} {cv' : Nat} {t : List Nat}
theorem RBk.noteH (h : RBk w B qb st F sa sB sc ah ch ac cc af cf Qh Qc Qf) (hf : ∀ i, F i → F' i) (hl : ∀ i, F' i → B ≤ i ∧ i < w.heap.size) (ho : ¬ F' qb) (nl : NL w F' (.slice av' Q'.length cv') Q') (e : Q'.map FG.s = ins t st.LH) (hk : ∀ q ∈ Q', q ∈ Qh ∨ (q.s = t ∧ q.k = kh st.bits t)) :
    RB (w.setCell ⟨qb, 3, none⟩ (.slice av' Q'.length cv')) B qb { st with LH := ins t st.LH } F' := by
  have m := h.mono hf hl ho
  have tn := rbk_set h 3 (.slice av' Q'.length cv')
  have ap : ∀ i, F' i → ¬ i = qb := fun i q z => ho (z ▸ q)
  refine ⟨sa, sB, sc, av', cv', ac, cc, af, cf, Q', Qc, Qf, ⟨(h.row.set 3 _).congr (fun i hi => ?_), m.sec.turn tn (fun _ => ap _ m.secF), m.secF, nl.turn tn ap, m.nc.turn tn ap, m.nf.turn tn ap, e, h.ec, h.ef, fun q hq => ?_, h.kc_, h.kf_, ris_ins h.rh, h.rc, h.rf, fun i q => by simpa using hl i q, h.base, ho, h.b1, h.b2, h.S8⟩⟩
  · rcases (by omega : i = 0 ∨ i = 1 ∨ i = 2 ∨ i = 3 ∨ i = 4 ∨ i = 5) with rfl | rfl | rfl | rfl | rfl | rfl <;> rfl
  · rcases hk q hq with z | ⟨z1, z2⟩
    · exact h.kh_ q z
    · rw [z2, z1]
theorem RBk.noteC (h : RBk w B qb st F sa sB sc ah ch ac cc af cf Qh Qc Qf) (hf : ∀ i, F i → F' i) (hl : ∀ i, F' i → B ≤ i ∧ i < w.heap.size) (ho : ¬ F' qb) (nl : NL w F' (.slice av' Q'.length cv') Q') (e : Q'.map FG.s = ins t st.LC) (hk : ∀ q ∈ Q', q ∈ Qc ∨ (q.s = t ∧ q.k = kc st.cbits st.S t)) :
    RB (w.setCell ⟨qb, 4, none⟩ (.slice av' Q'.length cv')) B qb { st with LC := ins t st.LC } F' := by
  have m := h.mono hf hl ho
  have tn := rbk_set h 4 (.slice av' Q'.length cv')
  have ap : ∀ i, F' i → ¬ i = qb := fun i q z => ho (z ▸ q)
  refine ⟨sa, sB, sc, ah, ch, av', cv', af, cf, Qh, Q', Qf, ⟨(h.row.set 4 _).congr (fun i hi => ?_), m.sec.turn tn (fun _ => ap _ m.secF), m.secF, m.nh.turn tn ap, nl.turn tn ap, m.nf.turn tn ap, h.eh, e, h.ef, h.kh_, fun q hq => ?_, h.kf_, h.rh, ris_ins h.rc, h.rf, fun i q => by simpa using hl i q, h.base, ho, h.b1, h.b2, h.S8⟩⟩
  · rcases (by omega : i = 0 ∨ i = 1 ∨ i = 2 ∨ i = 3 ∨ i = 4 ∨ i = 5) with rfl | rfl | rfl | rfl | rfl | rfl <;> rfl
  · rcases hk q hq with z | ⟨z1, z2⟩
    · exact h.kc_ q z
    · rw [z2, z1]
theorem RBk.noteF (h : RBk w B qb st F sa sB sc ah ch ac cc af cf Qh Qc Qf) (hf : ∀ i, F i → F' i) (hl : ∀ i, F' i → B ≤ i ∧ i < w.heap.size) (ho : ¬ F' qb) (nl : NL w F' (.slice av' Q'.length cv') Q') (e : Q'.map FG.s = ins t st.LF) (hk : ∀ q ∈ Q', q ∈ Qf ∨ (q.s = t ∧ q.k = kc st.cbits st.S t)) :
    RB (w.setCell ⟨qb, 5, none⟩ (.slice av' Q'.length cv')) B qb { st with LF := ins t st.LF } F' := by
  have m := h.mono hf hl ho
  have tn := rbk_set h 5 (.slice av' Q'.length cv')
  have ap : ∀ i, F' i → ¬ i = qb := fun i q z => ho (z ▸ q)
  refine ⟨sa, sB, sc, ah, ch, ac, cc, av', cv', Qh, Qc, Q', ⟨(h.row.set 5 _).congr (fun i hi => ?_), m.sec.turn tn (fun _ => ap _ m.secF), m.secF, m.nh.turn tn ap, m.nc.turn tn ap, nl.turn tn ap, h.eh, h.ec, e, h.kh_, h.kc_, fun q hq => ?_, h.rh, h.rc, ris_ins h.rf, fun i q => by simpa using hl i q, h.base, ho, h.b1, h.b2, h.S8⟩⟩
  · rcases (by omega : i = 0 ∨ i = 1 ∨ i = 2 ∨ i = 3 ∨ i = 4 ∨ i = 5) with rfl | rfl | rfl | rfl | rfl | rfl <;> rfl
  · rcases hk q hq with z | ⟨z1, z2⟩
    · exact h.kf_ q z
    · rw [z2, z1]
end
end Go.Proofs.YtlhllbggnpcoaaaGreatDoor

/-
  A forgery built.
-/
namespace Go.Proofs.YtlhllbggnpcoaaaGreatDoor
open Go.RowKit Go.Sort Go.Maps

theorem lst_self {x : List Nat} (h : IsH x) : lst 32 (fun i => x.getD i 0) = x := by
  unfold lst
  apply List.ext_getElem?
  intro i
  by_cases hi : i < 32
  · have hx : i < x.length := by rw [h.1]; exact hi
    rw [List.getElem?_map, List.getElem?_range hi, List.getElem?_eq_getElem hx]
    simp [List.getD, hx]
  · rw [List.getElem?_eq_none (by simp; omega), List.getElem?_eq_none (by rw [h.1]; omega)]
theorem builtF (a : Option Addr) (n c : Nat) (f : Nat → Nat) : Tryz.prog.built 73 [(0, .slice a n c), (1, .agg (bv (lst 32 f)).toArray)] = some (.slice a n c :: bv (lst 32 f)).toArray := by kernel_rfl
theorem builtF' (a : Option Addr) (n c : Nat) {x : List Nat} (h : IsH x) : Tryz.prog.built 73 [(0, .slice a n c), (1, .agg (hA x))] = some (.slice a n c :: bv x).toArray := by
  have := builtF a n c (fun i => x.getD i 0)
  rw [lst_self h] at this
  exact this
theorem fillF (a : Option Addr) (n c : Nat) (f : Nat → Nat) : Instr.fill (fun i => some (i * 33, 33)) ((Array.range (1 * 33)).map ((Value.agg (nilS :: bv (List.replicate 32 0)).toArray).cells[· % (Value.agg (nilS :: bv (List.replicate 32 0)).toArray).cells.size]!)) [(0, .agg (.slice a n c :: bv (lst 32 f)).toArray)] = some (.slice a n c :: bv (lst 32 f)).toArray := by kernel_rfl
theorem fillF' (a : Option Addr) (n c : Nat) {x : List Nat} (h : IsH x) : Instr.fill (fun i => some (i * 33, 33)) ((Array.range (1 * 33)).map ((Value.agg (nilS :: bv (List.replicate 32 0)).toArray).cells[· % (Value.agg (nilS :: bv (List.replicate 32 0)).toArray).cells.size]!)) [(0, .agg (.slice a n c :: bv x).toArray)] = some (.slice a n c :: bv x).toArray := by
  have := fillF a n c (fun i => x.getD i 0)
  rw [lst_self h] at this
  exact this

section
variable {ops : Array Oper} {S : World → Prop} {o : Oper} {a : Act}
/-- a call of a function of one argument -/
theorem r_call1 {Q : Exit → Act → World → Prop} {w : World} {K : Act → World → Prop} (f : Nat) (x : Operand) (ts : Array TypeId) (ho : o.op = .call { callee := .value (.func f), args := #[x], argTypes := ts }) (hw : Region.wanted o (yielded ops a.tmps) = true) (u : Value) (hx : a.eval x = u)
    (eg : ∀ args w, (callFunc f args).run Tryz.prog w = .ok (.enter f args) w) (hc : Calls Tryz.prog f #[u] w fun e w' => ∃ z, e = .returned z ∧ K (a.put o.dst z) w') :
    if Region.wanted o (yielded ops a.tmps) = true then Oper.wp Tryz.prog o a w K Q else K (a.put o.dst undef) w := by
  rw [if_pos hw]
  have e : (execOp a.eval o).run Tryz.prog w = .ok (.enter f #[u]) w := by
    unfold execOp
    have := eg #[u] w
    simp only [ho, resolve, List.map_toArray, List.map_cons, List.map_nil, hx]
    go_simp
  unfold Oper.wp
  rw [e, Oper.upon_enter]
  refine hc.mono ?_
  rintro _ w' ⟨z, rfl, h⟩
  exact h
theorem r_buildF {Q : Exit → Act → World → Prop} {w : World} {K : Act → World → Prop} {E : Prop} (y : Operand) (ho : o.op = .buildSlice 37 1 #[(0, y)]) (hw : Region.wanted o (yielded ops a.tmps) = true) (p : Option Addr) (n c : Nat) {x : List Nat} (hx : IsH x) (hy : a.eval y = .agg (.slice p n c :: bv x).toArray)
    (h : K (a.put o.dst (.slice (some ⟨w.heap.size, 0, none⟩) 1 1)) (w.alloc (.cells (.slice p n c :: bv x).toArray 73))) :
    if Region.wanted o (yielded ops a.tmps) = true then Oper.wp Tryz.prog o a w K Q else E := by
  rw [if_pos hw]
  obtain ⟨i0, hi0, hz0, hz1, hz2⟩ := info_parts infoF
  refine wp_buildSlice 37 73 1 _ ho _ i0 _ Tryz.underlying37 hi0 hz0 (by rw [hz1]; decide) (by rw [hz1]; decide) ?_ h
  rw [hz1]
  simp only [List.map_toArray, List.map_cons, List.map_nil, hy]
  exact fillF' p n c hx
end
end Go.Proofs.YtlhllbggnpcoaaaGreatDoor

/-
  Operations of DigestForges' regions that draw their order.
-/
namespace Go.Proofs.YtlhllbggnpcoaaaGreatDoor
open Go.RowKit

section
variable {ops : Array Oper} {S : World → Prop} {o : Oper} {a : Act}
theorem y_neqB (hw : Region.wanted o (yielded ops a.tmps) = true) (x y : Operand) (ho : o.op = .binOp .neq 4 x y 4) (b : Bool) (hx : a.eval x = .bool b) (hy : a.eval y = .bool b) : YieldsIf Tryz.prog ops S o (.bool false) a :=
  .inl ⟨hw, fun w _ => by
    unfold execOp
    simp only [ho, hx, hy]
    cases b
    · go_simp
    · go_simp⟩
theorem y_notT (hw : Region.wanted o (yielded ops a.tmps) = true) (x : Operand) (ho : o.op = .unOp .not 4 x) (hx : a.eval x = .bool true) : YieldsIf Tryz.prog ops S o (.bool false) a :=
  .inl ⟨hw, fun w _ => by
    unfold execOp
    simp only [ho, hx]
    go_simp⟩
theorem y_indexF (hw : Region.wanted o (yielded ops a.tmps) = true) (x : Operand) (ho : o.op = .indexAddr 37 x (.const (.int .i64 0))) (g c : Nat) (hx : a.eval x = .slice (some ⟨g, 0, none⟩) 1 c) : YieldsIf Tryz.prog ops S o (.pointer (some ⟨g, 0, none⟩)) a :=
  .inl ⟨hw, fun w _ => by
    unfold execOp
    simp only [ho, hx]
    go_simp⟩
theorem y_fieldF (hw : Region.wanted o (yielded ops a.tmps) = true) (x : Operand) (f : Nat) (ho : o.op = .fieldAddr 73 x f) (g p : Nat) (hx : a.eval x = .pointer (some ⟨g, p, none⟩)) (hf : f < 2) : YieldsIf Tryz.prog ops S o (.pointer (some ⟨g, p + f, none⟩)) a :=
  .inl ⟨hw, fun w _ => by
    unfold execOp
    simp only [ho, hx]
    rcases (by omega : f = 0 ∨ f = 1) with rfl | rfl
    · go_simp
    · go_simp⟩
/-- a call of a function of three arguments -/
theorem r_call3 {Q : Exit → Act → World → Prop} {w : World} {K : Act → World → Prop} (f : Nat) (x y z : Operand) (ts : Array TypeId) (ho : o.op = .call { callee := .value (.func f), args := #[x, y, z], argTypes := ts }) (hw : Region.wanted o (yielded ops a.tmps) = true) (u v t : Value) (hx : a.eval x = u) (hy : a.eval y = v) (hz : a.eval z = t)
    (eg : ∀ args w, (callFunc f args).run Tryz.prog w = .ok (.enter f args) w) (hc : Calls Tryz.prog f #[u, v, t] w fun e w' => ∃ z, e = .returned z ∧ K (a.put o.dst z) w') :
    if Region.wanted o (yielded ops a.tmps) = true then Oper.wp Tryz.prog o a w K Q else K (a.put o.dst undef) w := by
  rw [if_pos hw]
  have e : (execOp a.eval o).run Tryz.prog w = .ok (.enter f #[u, v, t]) w := by
    unfold execOp
    have := eg #[u, v, t] w
    simp only [ho, resolve, List.map_toArray, List.map_cons, List.map_nil, hx, hy, hz]
    go_simp
  unfold Oper.wp
  rw [e, Oper.upon_enter]
  refine hc.mono ?_
  rintro _ w' ⟨z, rfl, h⟩
  exact h
end
end Go.Proofs.YtlhllbggnpcoaaaGreatDoor

/-
  Operations of the reference's book.
-/
namespace Go.Proofs.YtlhllbggnpcoaaaGreatDoor
open Go.RowKit Go.Sort Go.Maps

section
variable {ops : Array Oper} {S : World → Prop} {o : Oper} {a : Act}
theorem y_nil (hw : Region.wanted o (yielded ops a.tmps) = true) (x : Operand) (ho : o.op = .nilCheck x) (p : Addr) (hx : a.eval x = .pointer (some p)) : YieldsIf Tryz.prog ops S o (.pointer (some p)) a :=
  .inl ⟨hw, fun w _ => by
    unfold execOp
    simp only [ho, hx]
    go_simp⟩
theorem y_fieldQ (hw : Region.wanted o (yielded ops a.tmps) = true) (x : Operand) (f : Nat) (ho : o.op = .fieldAddr 79 x f) (g : Nat) (hx : a.eval x = .pointer (some ⟨g, 0, none⟩)) (hf : f < 6) : YieldsIf Tryz.prog ops S o (.pointer (some ⟨g, f, none⟩)) a :=
  .inl ⟨hw, fun w _ => by
    unfold execOp
    simp only [ho, hx]
    rcases (by omega : f = 0 ∨ f = 1 ∨ f = 2 ∨ f = 3 ∨ f = 4 ∨ f = 5) with rfl | rfl | rfl | rfl | rfl | rfl
    · go_simp
    · go_simp
    · go_simp
    · go_simp
    · go_simp
    · go_simp⟩
theorem y_loadI (hw : Region.wanted o (yielded ops a.tmps) = true) (x : Operand) (ho : o.op = .load 3 x) (g p : Nat) (hx : a.eval x = .pointer (some ⟨g, p, none⟩)) (v : Value) (hS : ∀ w, S w → w.cell? ⟨g, p, none⟩ = some v) : YieldsIf Tryz.prog ops S o v a :=
  .inl ⟨hw, fun w hs => by
    have c := hS w hs
    unfold execOp
    simp only [ho, hx]
    go_simp⟩
theorem r_loadN {Q : Exit → Act → World → Prop} {w : World} {K : Act → World → Prop} {E : Prop} (hw : Region.wanted o (yielded ops a.tmps) = true) (x : Operand) (ho : o.op = .load 77 x) (g p : Nat) (hx : a.eval x = .pointer (some ⟨g, p, none⟩)) (v : Value) (c : w.cell? ⟨g, p, none⟩ = some v) (h : K (a.put o.dst v) w) :
    if Region.wanted o (yielded ops a.tmps) = true then Oper.wp Tryz.prog o a w K Q else E := by
  rw [if_pos hw]
  have e : (execOp a.eval o).run Tryz.prog w = .ok (.value v) w := by
    unfold execOp
    simp only [ho, hx]
    go_simp
  unfold Oper.wp
  rw [e]
  exact h
theorem r_storeN {Q : Exit → Act → World → Prop} {w : World} {K : Act → World → Prop} {E : Prop} (hw : Region.wanted o (yielded ops a.tmps) = true) (x y : Operand) (ho : o.op = .store 77 x y) (g p : Nat) (hx : a.eval x = .pointer (some ⟨g, p, none⟩)) (sa : Option Addr) (n sc : Nat) (hy : a.eval y = .slice sa n sc) (u : Value) (c : w.cell? ⟨g, p, none⟩ = some u) (fz : w.frozen? ⟨g, p, none⟩ = false) (h : K (a.put o.dst undef) (w.setCell ⟨g, p, none⟩ (.slice sa n sc))) :
    if Region.wanted o (yielded ops a.tmps) = true then Oper.wp Tryz.prog o a w K Q else E := by
  rw [if_pos hw]
  have e : (execOp a.eval o).run Tryz.prog w = .ok .skip (w.setCell ⟨g, p, none⟩ (.slice sa n sc)) := by
    unfold execOp
    simp only [ho, hx, hy]
    go_simp
  unfold Oper.wp
  rw [e]
  exact h
end
theorem cell_set_other {w : World} {g i g2 j : Nat} (v : Value) (hne : g2 ≠ g) : (w.setCell ⟨g, i, none⟩ v).cell? ⟨g2, j, none⟩ = w.cell? ⟨g2, j, none⟩ := by
  have t : Turn (fun i => i = g) w (w.setCell ⟨g, i, none⟩ v) := Turn.setCell w ⟨g, i, none⟩ v rfl
  by_cases h : g2 < w.heap.size
  · exact t.cell (q := ⟨g2, j, none⟩) h hne
  · have h1 : w.heap[g2]? = none := Array.getElem?_eq_none (by omega)
    have h2 : (w.setCell ⟨g, i, none⟩ v).heap[g2]? = none := Array.getElem?_eq_none (by simp; omega)
    unfold World.cell?
    rw [h1, h2]
theorem Turn.setRow' (w : World) (g : Nat) (cs : Array Value) : Turn (fun i => i = g) w (w.setRow g cs) := ⟨rfl, rfl, rfl, by simp, fun i _ hne => setRow_other w g i cs (fun z => hne z)⟩
end Go.Proofs.YtlhllbggnpcoaaaGreatDoor
