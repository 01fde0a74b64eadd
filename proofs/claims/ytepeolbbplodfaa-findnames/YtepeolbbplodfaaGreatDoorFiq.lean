import Derived.Test.YtepeolbbplodfaaGreatDoorFstq
import Derived.Test.YtepeolbbplodfaaGreatDoorEncq
import Derived.Test.YtepeolbbplodfaaGreatDoorONbq
import Derived.Test.YtepeolbbplodfaaGreatDoorYrq
import Derived.Test.YtepeolbbplodfaaGreatDoorGuq
import Derived.Test.YtepeolbbplodfaaGreatDoorMaq
/-
  refOf: the ref that an item stands for.
-/
namespace Go.Proofs.YtepeolbbplodfaaGreatDoor
open Go.RowKit

theorem fill_step {place : Nat → Option (Nat × Nat)} {cells : Array Value} {i off size : Nat} {v : Value} {rest : List (Nat × Value)} (hp : place i = some (off, size)) (hs : v.cells.size = size) (hl : off + size ≤ cells.size) :
    Instr.fill place cells ((i, v) :: rest) = Instr.fill place (v.cells.zipIdx.foldl (fun cs (c, j) => cs.setIfInBounds (off + j) c) cells) rest := by
  rw [Instr.fill, hp]
  simp only [hs]
  rw [if_neg (by simp; omega)]
theorem built26_fill (parts : List (Nat × Value)) : Tryz.prog.built 107 parts = Instr.fill (fun i => (#[(0, 1), (1, 32), (33, 1)] : Array (Nat × Nat))[i]?) (rcs rz (.slice none 0 0)).toArray parts := by kernel_rfl
theorem built29_fill (parts : List (Nat × Value)) : Tryz.prog.built 110 parts = Instr.fill (fun i => (#[(0, 1), (1, 1), (2, 1), (3, 1), (4, 34), (38, 544)] : Array (Nat × Nat))[i]?) (nc nz uz).toArray parts := by kernel_rfl
/-- cells laid over others, as a list -/
theorem fold_list (off : Nat) (a x x' b : List Value) (ha : a.length = off) (hx : x'.length = x.length) :
    (x'.toArray.zipIdx.foldl (fun (cs : Array Value) (p : Value × Nat) => cs.setIfInBounds (off + p.2) p.1) (a ++ (x ++ b)).toArray) = (a ++ (x' ++ b)).toArray := by
  have key := fold_set off x' 0 (a ++ (x ++ b)).toArray (by simp; omega)
  have e : x'.toArray.zipIdx.foldl (fun (cs : Array Value) (p : Value × Nat) => cs.setIfInBounds (off + p.2) p.1) (a ++ (x ++ b)).toArray = (x'.zipIdx 0).foldl (fun (cs : Array Value) (p : Value × Nat) => cs.setIfInBounds (off + p.2) p.1) (a ++ (x ++ b)).toArray := by
    rw [← Array.foldl_toList]
    simp
  rw [e]
  apply Array.ext_getElem?
  intro i
  rw [key.2 i]
  simp only [List.getElem?_toArray, Nat.add_zero]
  by_cases h1 : off ≤ i ∧ i < off + x'.length
  · rw [if_pos h1, List.getElem?_append_right (by omega), List.getElem?_append_left (by omega), ha]
  · rw [if_neg h1]
    by_cases h2 : i < off
    · rw [List.getElem?_append_left (by omega), List.getElem?_append_left (by omega)]
    · rw [List.getElem?_append_right (by omega), List.getElem?_append_right (by omega), List.getElem?_append_right (by omega), List.getElem?_append_right (by omega), hx]
theorem built26_hash (s : List Nat) (hs : s.length = 32) : Tryz.prog.built 107 [(0, .int .i64 1), (1, .agg (bv s).toArray)] = some (rcs ⟨1, s, []⟩ (.slice none 0 0)).toArray := by
  rw [built26_fill, fill_step (off := 0) (size := 1) rfl rfl (by rw [List.size_toArray, rcs_len z32_len]; omega)]
  have e : ((Value.int .i64 1).cells.zipIdx.foldl (fun (cs : Array Value) (p : Value × Nat) => cs.setIfInBounds (0 + p.2) p.1) (rcs rz (.slice none 0 0)).toArray) = ([Value.int .i64 1] ++ (bv z32 ++ [Value.slice none 0 0])).toArray := by kernel_rfl
  rw [e, fill_step (off := 1) (size := 32) rfl (by simp [Value.cells, bv_len, hs]) (by simp [bv_len, z32_len])]
  rw [show (Value.agg (bv s).toArray).cells = (bv s).toArray from rfl, fold_list 1 _ _ (bv s) _ rfl (by rw [bv_len, bv_len, hs, z32_len])]
  rfl
theorem own_of_str {w' : World} {B : Nat} {v : Value} {s : List Nat} (h : Str w' (fun i => B ≤ i) v s) : w'.ownsRow B 5 1 v s.length (bv s) := own_rebase h.own h.foot

theorem wpList_bdL {ops : Array Oper} {rest : List Oper} {op : Oper} {a : Act} {w : World} {Q : Exit → Act → World → Prop} (hw : Region.wanted op (yielded ops a.tmps) = true) (t : TypeId) (L : List (Nat × Operand)) (ho : op.op = .build t L.toArray) (cells : Array Value)
    (hb : Tryz.prog.built t (L.map fun (i, x) => (i, a.eval x)) = some cells) (h : wpList Tryz.prog ops Q rest (a.put op.dst (.agg cells)) w) : wpList Tryz.prog ops Q (op :: rest) a w :=
  wpList_bd hw t _ ho cells (by simp only [List.map_toArray]; exact hb) h
theorem own_setRow {w : World} {B B' g n : Nat} {v : Value} {xs : List Value} (h : w.ownsRow B 5 1 v n xs) (hg : g < B) (hB : B' ≤ B) (cs : Array Value) : (w.setRow g cs).ownsRow B' 5 1 v n xs :=
  own_rebase (own_same h (fun q hq => setRow_other w g q cs (by have := (h.lt q hq).1; omega))) (fun q hq => by have := (h.lt q hq).1; omega)
theorem arrayAt24 (w : World) (p : Option Addr) (c : Nat) : (Instr.arrayAt 31 (.slice p 32 c)).run Tryz.prog w = .ok (.pointer p) w := by
  simp [Instr.arrayAt, run_underlying Tryz.underlying31]
/-- what refOf answers -/
def RofPst (x : It) (w : World) (e : Ending) (w' : World) : Prop :=
  ∃ v, e = .returned (.tuple #[.agg (rcs ((itR x).getD rz) v).toArray, .bool (itR x).isSome]) ∧ w'.ownsRow w.heap.size 5 1 v ((itR x).getD rz).b.length (bv ((itR x).getD rz).b) ∧ Below w.heap.size w w' ∧ ∀ y ∈ ((itR x).getD rz).b, y < 256
theorem vb_range {w : World} {a : Option Addr} {b off n : Nat} {s : List Nat} (h : Vw w a b off s) (hn : s.length = n) (h0 : 0 < n) : a = some ⟨b, off, none⟩ ∧ w.rangeAt b off (bv s) := by
  refine ⟨h.at_ (by omega), fun j v hv => ?_⟩
  have hj : j < s.length := by rw [← bv_len s]; exact (List.getElem?_eq_some_iff.1 hv).1
  rw [bv_at hj] at hv
  rw [← hv]
  exact h.cell j hj
theorem res2a {fn : Func} {p t : Tmp} (h : fn.results = #[.cell p 107, .tmp t]) (tmps : Array Value) (w : World) (g : Nat) (r : Rf) (v : Value) (q : Value) (hr : r.h.length = 32) (hg : w.rangeAt g 0 (rcs r v)) (hp : tmps.getD p undef = .pointer (some ⟨g, 0, none⟩)) (ht : tmps.getD t undef = q) :
    (results fn tmps).run Tryz.prog w = .ok (.tuple #[.agg (rcs r v).toArray, q]) w :=
  res2 h tmps w g _ _ hp ht (run_loadVar_mid w g 0 107 _ _ hg Tryz.underlying107 rfl (info_rcs hr v))
set_option maxRecDepth 100000 in
set_option maxHeartbeats 1600000 in
theorem refOf_any {w : World} {x : It} {vb vi : Value} (h : Lies Vb w x vb vi) : Calls Tryz.prog 147 #[iv x.l vb vi] w (RofPst x w) := by
  have hz := zv26
  have har := arrayAt24
  obtain ⟨a1, n1, k1, a2, n2, k2, rfl, rfl⟩ := h.form
  obtain ⟨l, el⟩ : ∃ l, l = x.l := ⟨_, rfl⟩
  rw [← el]
  have HEL : Hid (l = x.l) := el
  have BB : ∀ lb, Below w.heap.size w ((w.alloc (.cells #[.bool lb, .slice a1 n1 k1, .slice a2 n2 k2] 191)).alloc (.cells (rcs rz (.slice none 0 0)).toArray 107)) := fun lb => (below_alloc _ _).alloc (by simp) _
  have hg : ∀ lb, ((w.alloc (.cells #[.bool lb, .slice a1 n1 k1, .slice a2 n2 k2] 191)).alloc (.cells (rcs rz (.slice none 0 0)).toArray 107)).heap[w.heap.size + 1]? = some (.cells (rcs rz (.slice none 0 0)).toArray 107 (0, 0)) := fun lb => by
    have := heap_alloc_new (w.alloc (.cells #[.bool lb, .slice a1 n1 k1, .slice a2 n2 k2] 191)) (.cells (rcs rz (.slice none 0 0)).toArray 107)
    simpa using this
  clear el
  cases l with
  | true =>
    have HR : Hid (itR x = some ⟨2, z32, enc x⟩) := by
      show itR x = _
      unfold itR
      rw [← HEL.out, if_pos rfl]
    have K := encode_any x _ _ _ (h.keep (BB true))
    rw [← HEL.out] at K
    have g0 := hg true
    clear h hg
    go_enter Tryz.func147, Tryz.ntmps147
    have HBD : Hid (∀ (a3 : Option Addr) (c3 : Nat), Tryz.prog.built 107 [(0, .int .i64 2), (2, .slice a3 (enc x).length c3)] = some (rcs ⟨2, z32, enc x⟩ (.slice a3 (enc x).length c3)).toArray) := fun a3 c3 => by kernel_rfl
    have HBB : Hid (Below w.heap.size w ((w.alloc (.cells #[.bool true, .slice a1 n1 k1, .slice a2 n2 k2] 191)).alloc (.cells (rcs rz (.slice none 0 0)).toArray 107))) := BB true
    clear BB
    go_wp2_with (first
      | (go_at_call 155; refine K.mono ?_; rintro e w3 ⟨v, rfl, hs, hb⟩; have own := own_of_str hs; have HY : Hid (∀ y ∈ enc x, y < 256) := hs.ok.2; obtain ⟨a3, c3, rfl⟩ := own_slice own; have g3 := (hb.block (w.heap.size + 1) (by simp)).trans g0; have HZ : Hid (Below w.heap.size w w3 ∧ w3.ownsRow ((w.alloc (.cells #[.bool true, .slice a1 n1 k1, .slice a2 n2 k2] 191)).alloc (.cells (rcs rz (.slice none 0 0)).toArray 107)).heap.size 5 1 (.slice a3 (enc x).length c3) (enc x).length (bv (enc x))) := ⟨ch HBB.out hb, own⟩; have bd := HBD.out a3 c3; clear hs own hb g0 K)
      | refine wpList_bdL (by kernel_rfl) _ _ (by rfl) _ bd ?_
      | refine wpList_st26b (by kernel_rfl) _ _ (by rfl) _ ⟨2, z32, enc x⟩ rz (.slice a3 (enc x).length c3) (.slice none 0 0) z32_len z32_len (by rfl) g3 (by rfl) (by rfl) ?_)
    have hr3 := setRow_heap w3 (w.heap.size + 1) _ (rcs ⟨2, z32, enc x⟩ (.slice a3 (enc x).length c3)).toArray _ _ g3
    refine bodyPost_ret (res2a rfl _ _ (w.heap.size + 1) _ _ _ z32_len (rng_row hr3) rfl rfl) rfl ?_
    refine ⟨.slice a3 (enc x).length c3, by rw [HR.out]; rfl, ?_, below_setRow HZ.out.1 (by omega) _, by rw [HR.out]; exact HY.out⟩
    rw [HR.out]
    exact own_setRow HZ.out.2 (by simp) (by simp; omega) _
  | false =>
    have HBB : Hid (Below w.heap.size w ((w.alloc (.cells #[.bool false, .slice a1 n1 k1, .slice a2 n2 k2] 191)).alloc (.cells (rcs rz (.slice none 0 0)).toArray 107))) := BB false
    have g0 := hg false
    obtain ⟨n, en⟩ : ∃ n, n = x.b.length := ⟨_, rfl⟩
    have HV : ∃ bk off, n1 = n ∧ Vw ((w.alloc (.cells #[.bool false, .slice a1 n1 k1, .slice a2 n2 k2] 191)).alloc (.cells (rcs rz (.slice none 0 0)).toArray 107)) a1 bk off x.b := by
      have hk := h.keep (BB false)
      rw [It.eta x] at hk
      obtain ⟨a', c', a, c, blk, off, e1, e2, hR, -⟩ := hk.opened
      obtain ⟨a'', b'', off'', c'', e3, hv, -⟩ := hR
      injection e1 with e1a e1b e1c
      injection e3 with e3a e3b e3c
      subst e3a
      exact ⟨b'', off'', by rw [e1b, en], hv⟩
    obtain ⟨bk, off, rfl, hv⟩ := HV
    have HR0 : Hid (itR x = if n1 = 0 then some rz else if n1 = 32 then some ⟨1, x.b, []⟩ else none) := by
      show itR x = _
      unfold itR
      rw [← HEL.out, if_neg (by simp), en]
    have hln := hv.len
    rw [← en] at hln
    have HN : Hid (n1 = x.b.length) := en
    have hxb := (vw_ok hv).2
    clear h hg BB en
    by_cases h0 : n1 = 0
    · subst h0
      have HR : Hid (itR x = some rz) := by show itR x = _; rw [HR0.out, if_pos rfl]
      clear hv
      go_enter Tryz.func147, Tryz.ntmps147
      go_wp2_with (first
        | refine wpList_bd26 (by kernel_rfl) (by rfl) ?_
        | refine wpList_st26b (by kernel_rfl) _ _ (by rfl) _ rz rz (.slice none 0 0) (.slice none 0 0) z32_len z32_len (by rfl) g0 (by rfl) (by rfl) ?_)
      have hr3 := setRow_heap ((w.alloc (.cells #[.bool false, .slice a1 0 k1, .slice a2 n2 k2] 191)).alloc (.cells (rcs rz (.slice none 0 0)).toArray 107)) (w.heap.size + 1) _ (rcs rz (.slice none 0 0)).toArray _ _ g0
      refine bodyPost_ret (res2a rfl _ _ (w.heap.size + 1) _ _ _ z32_len (rng_row hr3) rfl rfl) rfl ?_
      refine ⟨.slice none 0 0, by rw [HR.out]; rfl, ?_, below_setRow HBB.out (by omega) _, by rw [HR.out]; exact fun y hy => by cases hy⟩
      rw [HR.out]
      exact ⟨rfl, Or.inl ⟨rfl, rfl⟩⟩
    · have j0 : ((n1 : Int) == 0) = false := by simp; omega
      have j0b : ¬ (n1 : Int) = 0 := by omega
      by_cases h32 : n1 = 32
      · subst h32
        obtain ⟨rfl, rg⟩ := vb_range hv HN.out.symm (by omega)
        have HR : Hid (itR x = some ⟨1, x.b, []⟩) := by show itR x = _; rw [HR0.out, if_neg (by omega), if_pos rfl]
        have hs := HN.out.symm
        have bd := built26_hash x.b hs
        have HS : Hid (x.b.length = 32) := hs
        clear hv hs
        go_enter Tryz.func147, Tryz.ntmps147
        go_wp2_with (first
          | refine wpList_ld24 (by kernel_rfl) _ (by rfl) _ _ _ HS.out rg (by rfl) ?_
          | refine wpList_bdL (by kernel_rfl) _ _ (by rfl) _ bd ?_
          | refine wpList_st26b (by kernel_rfl) _ _ (by rfl) _ ⟨1, x.b, []⟩ rz (.slice none 0 0) (.slice none 0 0) HS.out z32_len (by rfl) g0 (by rfl) (by rfl) ?_)
        have hr3 := setRow_heap ((w.alloc (.cells #[.bool false, .slice (some ⟨bk, off, none⟩) 32 k1, .slice a2 n2 k2] 191)).alloc (.cells (rcs rz (.slice none 0 0)).toArray 107)) (w.heap.size + 1) _ (rcs ⟨1, x.b, []⟩ (.slice none 0 0)).toArray _ _ g0
        refine bodyPost_ret (res2a rfl _ _ (w.heap.size + 1) _ _ _ HS.out (rng_row hr3) rfl rfl) rfl ?_
        refine ⟨.slice none 0 0, by rw [HR.out]; rfl, ?_, below_setRow HBB.out (by omega) _, by rw [HR.out]; exact fun y hy => by cases hy⟩
        rw [HR.out]
        exact ⟨rfl, Or.inl ⟨rfl, rfl⟩⟩
      · have j32 : ((n1 : Int) == 32) = false := by simp; omega
        have j32b : ¬ (n1 : Int) = 32 := by omega
        have HR : Hid (itR x = none) := by show itR x = _; rw [HR0.out, if_neg h0, if_neg h32]
        clear hv
        go_enter Tryz.func147, Tryz.ntmps147
        go_wp2_with (first
          | refine wpList_bd26 (by kernel_rfl) (by rfl) ?_
          | refine wpList_st26b (by kernel_rfl) _ _ (by rfl) _ rz rz (.slice none 0 0) (.slice none 0 0) z32_len z32_len (by rfl) g0 (by rfl) (by rfl) ?_)
        have hr3 := setRow_heap ((w.alloc (.cells #[.bool false, .slice a1 n1 k1, .slice a2 n2 k2] 191)).alloc (.cells (rcs rz (.slice none 0 0)).toArray 107)) (w.heap.size + 1) _ (rcs rz (.slice none 0 0)).toArray _ _ g0
        refine bodyPost_ret (res2a rfl _ _ (w.heap.size + 1) _ _ _ z32_len (rng_row hr3) rfl rfl) rfl ?_
        refine ⟨.slice none 0 0, by rw [HR.out]; rfl, ?_, below_setRow HBB.out (by omega) _, by rw [HR.out]; exact fun y hy => by cases hy⟩
        rw [HR.out]
        exact ⟨rfl, Or.inl ⟨rfl, rfl⟩⟩
end Go.Proofs.YtepeolbbplodfaaGreatDoor

/-
  Operations of a region that draws its order, each by a law of its own: nodes.
-/
namespace Go.Proofs.YtepeolbbplodfaaGreatDoor
open Go.RowKit

section
variable {ops : Array Oper} {S : World → Prop} {o : Oper} {a : Act}
theorem y_f62 (hw : Region.wanted o (yielded ops a.tmps) = true) (x : Operand) (f : Nat) (ho : o.op = .fieldAddr 191 x f) (g p : Nat) (hx : a.eval x = .pointer (some ⟨g, p, none⟩)) (hf : f < 3) : YieldsIf Tryz.prog ops S o (.pointer (some ⟨g, p + f, none⟩)) a :=
  .inl ⟨hw, fun w _ => by
    unfold execOp
    simp only [ho, hx]
    rcases (by omega : f = 0 ∨ f = 1 ∨ f = 2) with rfl | rfl | rfl
    · go_simp
    · go_simp
    · go_simp⟩
theorem y_load4 (hw : Region.wanted o (yielded ops a.tmps) = true) (x : Operand) (ho : o.op = .load 4 x) (g p : Nat) (hx : a.eval x = .pointer (some ⟨g, p, none⟩)) (v : Value) (hS : ∀ w, S w → w.cell? ⟨g, p, none⟩ = some v) : YieldsIf Tryz.prog ops S o v a :=
  .inl ⟨hw, fun w hs => by
    have c := hS w hs
    unfold execOp
    simp only [ho, hx]
    go_simp⟩
theorem y_load3 (hw : Region.wanted o (yielded ops a.tmps) = true) (x : Operand) (ho : o.op = .load 3 x) (g p : Nat) (hx : a.eval x = .pointer (some ⟨g, p, none⟩)) (v : Value) (hS : ∀ w, S w → w.cell? ⟨g, p, none⟩ = some v) : YieldsIf Tryz.prog ops S o v a :=
  .inl ⟨hw, fun w hs => by
    have c := hS w hs
    unfold execOp
    simp only [ho, hx]
    go_simp⟩
theorem y_load60 (hw : Region.wanted o (yielded ops a.tmps) = true) (x : Operand) (ho : o.op = .load 189 x) (g p : Nat) (hx : a.eval x = .pointer (some ⟨g, p, none⟩)) (v : Value) (hS : ∀ w, S w → w.cell? ⟨g, p, none⟩ = some v) : YieldsIf Tryz.prog ops S o v a :=
  .inl ⟨hw, fun w hs => by
    have c := hS w hs
    unfold execOp
    simp only [ho, hx]
    go_simp⟩
theorem y_i60 (hw : Region.wanted o (yielded ops a.tmps) = true) (x i : Operand) (ho : o.op = .indexAddr 189 x i) (g p n c j : Nat) (hx : a.eval x = .slice (some ⟨g, p, none⟩) n c) (hi : a.eval i = .int .i64 j) (hj : j < n) : YieldsIf Tryz.prog ops S o (.pointer (some ⟨g, p + j * 3, none⟩)) a :=
  .inl ⟨hw, fun w _ => by
    have q : (j : Int) < (n : Int) := by omega
    unfold execOp
    simp only [ho, hx, hi]
    go_simp⟩
theorem y_i27 (hw : Region.wanted o (yielded ops a.tmps) = true) (x i : Operand) (ho : o.op = .indexAddr 108 x i) (g p j : Nat) (hx : a.eval x = .pointer (some ⟨g, p, none⟩)) (hi : a.eval i = .int .i64 j) (hj : j < 16) : YieldsIf Tryz.prog ops S o (.pointer (some ⟨g, p + j * 34, none⟩)) a :=
  .inl ⟨hw, fun w _ => by
    have q : (j : Int) < 16 := by omega
    unfold execOp
    simp only [ho, hx, hi]
    go_simp⟩
theorem y_f29k (hw : Region.wanted o (yielded ops a.tmps) = true) (x : Operand) (ho : o.op = .fieldAddr 110 x 5) (g : Nat) (hx : a.eval x = .pointer (some ⟨g, 0, none⟩)) : YieldsIf Tryz.prog ops S o (.pointer (some ⟨g, 38, none⟩)) a :=
  .inl ⟨hw, fun w _ => by
    unfold execOp
    simp only [ho, hx]
    go_simp⟩
theorem y_f29f (hw : Region.wanted o (yielded ops a.tmps) = true) (x : Operand) (f : Nat) (ho : o.op = .fieldAddr 110 x f) (g : Nat) (hx : a.eval x = .pointer (some ⟨g, 0, none⟩)) (hf : f < 5) : YieldsIf Tryz.prog ops S o (.pointer (some ⟨g, f, none⟩)) a :=
  .inl ⟨hw, fun w _ => by
    unfold execOp
    simp only [ho, hx]
    rcases (by omega : f = 0 ∨ f = 1 ∨ f = 2 ∨ f = 3 ∨ f = 4) with rfl | rfl | rfl | rfl | rfl
    · go_simp
    · go_simp
    · go_simp
    · go_simp
    · go_simp⟩
theorem y_f26a (hw : Region.wanted o (yielded ops a.tmps) = true) (x : Operand) (f : Nat) (ho : o.op = .fieldAddr 107 x f) (g p : Nat) (hx : a.eval x = .pointer (some ⟨g, p, none⟩)) (hf : f < 2) : YieldsIf Tryz.prog ops S o (.pointer (some ⟨g, p + f, none⟩)) a :=
  .inl ⟨hw, fun w _ => by
    unfold execOp
    simp only [ho, hx]
    rcases (by omega : f = 0 ∨ f = 1) with rfl | rfl
    · go_simp
    · go_simp⟩
theorem y_f26b (hw : Region.wanted o (yielded ops a.tmps) = true) (x : Operand) (ho : o.op = .fieldAddr 107 x 2) (g p : Nat) (hx : a.eval x = .pointer (some ⟨g, p, none⟩)) : YieldsIf Tryz.prog ops S o (.pointer (some ⟨g, p + 33, none⟩)) a :=
  .inl ⟨hw, fun w _ => by
    unfold execOp
    simp only [ho, hx]
    go_simp⟩
theorem y_ld62 (hw : Region.wanted o (yielded ops a.tmps) = true) (x : Operand) (ho : o.op = .load 191 x) (g p : Nat) (hx : a.eval x = .pointer (some ⟨g, p, none⟩)) (u v z : Value) (hS : ∀ w, S w → w.cell? ⟨g, p, none⟩ = some u ∧ w.cell? ⟨g, p + 1, none⟩ = some v ∧ w.cell? ⟨g, p + 2, none⟩ = some z) : YieldsIf Tryz.prog ops S o (.agg #[u, v, z]) a :=
  yieldsIf_load_mid hw _ _ ho g p hx [u, v, z] _ (fun w hs => range3 (hS w hs).1 (hS w hs).2.1 (hS w hs).2.2) Tryz.underlying191 rfl info25s
theorem y_ld26 (hw : Region.wanted o (yielded ops a.tmps) = true) (x : Operand) (ho : o.op = .load 107 x) (g p : Nat) (hx : a.eval x = .pointer (some ⟨g, p, none⟩)) (r : Rf) (v : Value) (hr : r.h.length = 32) (hS : ∀ w, S w → w.rangeAt g p (rcs r v)) : YieldsIf Tryz.prog ops S o (.agg (rcs r v).toArray) a :=
  yieldsIf_load_mid hw _ _ ho g p hx (rcs r v) _ hS Tryz.underlying107 rfl (info_rcs hr v)
theorem y_ld24 (hw : Region.wanted o (yielded ops a.tmps) = true) (x : Operand) (ho : o.op = .load 31 x) (g p : Nat) (hx : a.eval x = .pointer (some ⟨g, p, none⟩)) (s : List Nat) (hr : s.length = 32) (hS : ∀ w, S w → w.rangeAt g p (bv s)) : YieldsIf Tryz.prog ops S o (.agg (bv s).toArray) a :=
  yieldsIf_load_mid hw _ _ ho g p hx (bv s) _ hS Tryz.underlying31 rfl (info_bv hr)
theorem y_ld29 (hw : Region.wanted o (yielded ops a.tmps) = true) (x : Operand) (ho : o.op = .load 110 x) (g : Nat) (hx : a.eval x = .pointer (some ⟨g, 0, none⟩)) (n : Nd) (u : Nv) (hr : n.W) (hS : ∀ w, S w → w.rangeAt g 0 (nc n u)) : YieldsIf Tryz.prog ops S o (.agg (nc n u).toArray) a :=
  yieldsIf_load_mid hw _ _ ho g 0 hx (nc n u) _ hS Tryz.underlying110 rfl (info_nc hr u)
theorem y_bd (hw : Region.wanted o (yielded ops a.tmps) = true) (t : TypeId) (L : List (Nat × Operand)) (ho : o.op = .build t L.toArray) (cells : Array Value)
    (hb : Tryz.prog.built t (L.map fun (i, x) => (i, a.eval x)) = some cells) : YieldsIf Tryz.prog ops S o (.agg cells) a :=
  .inl ⟨hw, fun w _ => by
    have hb' : Tryz.prog.built t (L.toArray.map fun (i, x) => (i, a.eval x)).toList = some cells := by simp only [List.map_toArray]; exact hb
    unfold execOp
    simp only [ho, Sem.run_bind, run_build w t _ cells hb', Result.andThen_ok]
    rfl⟩
theorem y_not (hw : Region.wanted o (yielded ops a.tmps) = true) (x : Operand) (ho : o.op = .unOp .not 4 x) (b : Bool) (hx : a.eval x = .bool b) : YieldsIf Tryz.prog ops S o (.bool (!b)) a :=
  .inl ⟨hw, fun w _ => by
    unfold execOp
    simp only [ho, hx]
    go_simp⟩
theorem y_ext (hw : Region.wanted o (yielded ops a.tmps) = true) (x : Operand) (i : Nat) (ho : o.op = .extract x i) (vs : Array Value) (v : Value) (hx : a.eval x = .tuple vs) (hv : vs[i]? = some v) : YieldsIf Tryz.prog ops S o v a :=
  .inl ⟨hw, fun w _ => by
    unfold execOp
    simp only [ho, hx, Instr.extract, hv]
    rfl⟩
theorem r_st29b {Q : Exit → Act → World → Prop} {w : World} {K : Act → World → Prop} {E : Prop} (hw : Region.wanted o (yielded ops a.tmps) = true) (x y : Operand) (ho : o.op = .store 110 x y) (b : Nat) (n m : Nd) (u t : Nv) (hn : n.W) (hm : m.W) (h1 : (nc n u).toArray.all (·.oneCell') = true) (hb : w.heap[b]? = some (.cells (nc m t).toArray 110 (0, 0)))
    (hx : a.eval x = .pointer (some ⟨b, 0, none⟩)) (hy : a.eval y = .agg (nc n u).toArray) (h : K (a.put o.dst undef) (w.setRow b (nc n u).toArray)) :
    if Region.wanted o (yielded ops a.tmps) = true then Oper.wp Tryz.prog o a w K Q else E := by
  rw [if_pos hw]
  exact wp_store_row 110 x y ho b (nc n u).toArray hx hy 110 (nc m t).toArray hb (by rw [List.size_toArray]; exact info_nc hn u) (by rw [List.size_toArray, List.size_toArray, nc_len hn, nc_len hm]) h1 h
end
end Go.Proofs.YtepeolbbplodfaaGreatDoor

/-
  cairnref07: path, value.
-/
namespace Go.Proofs.YtepeolbbplodfaaGreatDoor
open Go.RowKit

def nibs (s : List Nat) : Bool := s.all (fun x => decide (x ≤ 15))
theorem nibs_at {s : List Nat} {i : Nat} (hi : i < s.length) (h : ¬ gd s i ≤ 15) : nibs s = false := by
  unfold nibs
  rw [List.all_eq_false]
  exact ⟨s[i], List.getElem_mem hi, by rw [gd_get hi]; simpa using h⟩
theorem nibs_all {s : List Nat} (h : ∀ i, i < s.length → gd s i ≤ 15) : nibs s = true := by
  unfold nibs
  rw [List.all_eq_true]
  intro x hx
  obtain ⟨i, hi, rfl⟩ := List.getElem_of_mem hx
  rw [gd_get hi]
  simpa using h i hi
def pthF (s : List Nat) (lo : Nat) : Bool := nibs s && (decide (lo ≤ s.length) && decide (s.length ≤ 64))
set_option maxRecDepth 100000 in
set_option maxHeartbeats 1600000 in
theorem rpath_any {w : World} {v : Value} {s : List Nat} (h : Vb w v s) (lo : Nat) :
    Calls Tryz.prog 103 #[v, .int .i64 lo] w fun e w' => e = .returned (.bool (pthF s lo)) ∧ w' = w := by
  obtain ⟨a, b2, off, c, rfl, hv, -, hnil, hsl⟩ := h
  obtain ⟨n, en⟩ : ∃ n, n = s.length := ⟨_, rfl⟩
  have HV : Hid (∀ i, i < n → a = some ⟨b2, off, none⟩ ∧ w.cell? ⟨b2, off + i, none⟩ = some (.int .u8 (gd s i : Nat))) := fun i hi => ⟨hv.at_ (by omega), hv.cell i (by omega)⟩
  have HN : Hid (n = s.length) := en
  obtain ⟨R, eR⟩ : ∃ R, R = pthF s lo := ⟨_, rfl⟩
  have HR : Hid (R = pthF s lo) := eR
  rw [← en] at hsl ⊢
  rw [← eR]
  clear hv hnil en eR
  go_enter Tryz.func103, Tryz.ntmps103
  go_wp2_with fail
  go_loopg [5] n (fun gg k wr => ∃ i : Nat, i ≤ n ∧ gg = n - i ∧ k = .int .i64 i ∧ wr = w ∧ ∀ j, j < i → gd s j ≤ 15)
  case atStart => exact ⟨0, by omega, rfl, rfl, rfl, fun j hj => by omega⟩
  case round =>
    obtain ⟨i, hi, rfl, rfl, rfl, hj⟩ := hrel
    have HJ : Hid (∀ j, j < i → gd s j ≤ 15) := hj
    clear hj
    by_cases hin : i < n
    · have i1 : (i : Int) < n := by omega
      obtain ⟨rfl, c0⟩ := HV.out i hin
      by_cases h15 : gd s i ≤ 15
      · have i2 : ¬ (15 : Int) < ((gd s i : Nat) : Int) := by omega
        have HJ2 : Hid (∀ j, j < i + 1 → gd s j ≤ 15) := fun j hj => by
          by_cases e : j = i
          · subst e; exact h15
          · exact HJ.out j (by omega)
        generalize gd s i = y at c0 i2
        clear h15
        go_wp2_with fail
        go_roundg (n - (i + 1))
        case measure => omega
        case rel => exact ⟨i + 1, hin, rfl, by go_num, rfl, HJ2.out⟩
      · have i2 : (15 : Int) < ((gd s i : Nat) : Int) := by omega
        have HF : Hid (R = false) := by
          have : R = false := by rw [HR.out, pthF, nibs_at (by rw [← HN.out]; exact hin) h15]; rfl
          exact this
        generalize gd s i = y at c0 i2
        clear h15
        go_wp2_with fail
        go_ret
        rw [HF.out]
        exact ⟨rfl, rfl⟩
    · have i1 : ¬ (i : Int) < n := by omega
      have e : i = n := by omega
      subst e
      have HF : Hid (R = (decide (lo ≤ i) && decide (i ≤ 64))) := by
        have : R = (decide (lo ≤ i) && decide (i ≤ 64)) := by
          rw [HR.out, pthF, nibs_all (fun j hj => HJ.out j (by rw [HN.out]; exact hj)), ← HN.out]; rfl
        exact this
      by_cases h1 : lo ≤ i
      · have i2 : (lo : Int) ≤ (i : Int) := by omega
        go_wp2_with fail
        go_ret
        rw [HF.out]
        simp [h1]
        try omega
      · have i2 : ¬ (lo : Int) ≤ (i : Int) := by omega
        go_wp2_with fail
        go_ret
        rw [HF.out]
        simp [h1]
theorem rvalue_any {w : World} {v : Value} {s : List Nat} (h : Vb w v s) :
    Calls Tryz.prog 104 #[v] w fun e w' => e = .returned (.bool (isV s)) ∧ w' = w := by
  obtain ⟨a, b2, off, c, rfl, hv, -, hnil, hsl⟩ := h
  unfold isV
  generalize s.length = n at *
  clear hv hnil
  by_cases h1 : 0 < n
  · have i2 : (1 : Int) ≤ (n : Int) := by omega
    go_enter Tryz.func104, Tryz.ntmps104
    go_wp2_with fail
    go_ret
    simp [h1]
    try omega
  · have i2 : ¬ (1 : Int) ≤ (n : Int) := by omega
    go_enter Tryz.func104, Tryz.ntmps104
    go_wp2_with fail
    go_ret
    simp
end Go.Proofs.YtepeolbbplodfaaGreatDoor

/-
  cairnref07: part.
-/
namespace Go.Proofs.YtepeolbbplodfaaGreatDoor
open Go.RowKit

/-- the first form of bytes, loosely -/
structure Pt where
  l : Bool
  a : Nat
  e : Nat
  ok : Bool
def ptL (s : List Nat) : Nat → Nat → Nat → Option Nat
  | 0, _, n => some n
  | f + 1, i, n => if s.length ≤ i ∨ 1048576 < n then none else ptL s f (i + 1) (256 * n + gd s i)
def ptZ : Pt := ⟨false, 0, 0, false⟩
def ptF (s : List Nat) : Pt :=
  if s.length = 0 then ptZ
  else if gd s 0 < 128 then ⟨false, 0, 1, true⟩
  else if gd s 0 % 64 < 56 then ⟨decide (192 ≤ gd s 0), 1, 1 + gd s 0 % 64, decide (1 + gd s 0 % 64 ≤ s.length)⟩
  else match ptL s (gd s 0 % 64 - 55) 1 0 with
    | none => ptZ
    | some n => ⟨decide (192 ≤ gd s 0), 1 + (gd s 0 % 64 - 55), 1 + (gd s 0 % 64 - 55) + n, decide (1 + (gd s 0 % 64 - 55) + n ≤ s.length)⟩
def Pt.v (p : Pt) : Value := .tuple #[.bool p.l, .int .i64 p.a, .int .i64 p.e, .bool p.ok]
theorem res4t {fn : Func} {p q r t : Tmp} (h : fn.results = #[.tmp p, .tmp q, .tmp r, .tmp t]) (tmps : Array Value) (w : World) (vp vq vr vt : Value) (hp : tmps.getD p undef = vp) (hq : tmps.getD q undef = vq) (hr : tmps.getD r undef = vr) (ht : tmps.getD t undef = vt) :
    (results fn tmps).run Tryz.prog w = .ok (.tuple #[vp, vq, vr, vt]) w := by
  have hp' : tmps[p]?.getD undef = vp := by simpa using hp
  have hq' : tmps[q]?.getD undef = vq := by simpa using hq
  have hr' : tmps[r]?.getD undef = vr := by simpa using hr
  have ht' : tmps[t]?.getD undef = vt := by simpa using ht
  simp [results, h, hp', hq', hr', ht']
set_option maxRecDepth 100000 in
set_option maxHeartbeats 1600000 in
theorem rpart_any {w : World} {v : Value} {s : List Nat} (h : Vb w v s) : Calls Tryz.prog 130 #[v] w fun e w' => e = .returned (ptF s).v ∧ w' = w := by
  obtain ⟨a, b2, off, c, rfl, hv, -, -, hsl⟩ := h
  obtain ⟨n, en⟩ : ∃ n, n = s.length := ⟨_, rfl⟩
  have HV : Hid (∀ i, i < n → a = some ⟨b2, off, none⟩ ∧ w.cell? ⟨b2, off + i, none⟩ = some (.int .u8 (gd s i : Nat)) ∧ gd s i < 256) := fun i hi => ⟨hv.at_ (by omega), hv.cell i (by omega), gd_lt (vw_ok hv).2 i⟩
  obtain ⟨R, eR⟩ : ∃ R, R = ptF s := ⟨_, rfl⟩
  have HN : Hid (n = s.length) := en
  have HR : Hid (R = ptF s) := eR
  rw [← en] at hsl ⊢
  rw [← eR]
  clear hv en eR
  by_cases h0 : n = 0
  · have HF : Hid (R = ptZ) := by show _ = _; rw [HR.out, ptF, if_pos (by rw [← HN.out]; exact h0)]
    subst h0
    go_enter Tryz.func130, Tryz.ntmps130
    go_wp2_with fail
    refine bodyPost_ret (res4t rfl _ _ _ _ _ _ rfl rfl rfl rfl) rfl ?_
    rw [HF.out]
    exact ⟨rfl, rfl⟩
  · have i0 : ¬ (n : Int) = 0 := by omega
    have i0b : ((n : Int) == 0) = false := by simpa using i0
    have i0c : (0 : Int) < n := by omega
    obtain ⟨rfl, c0, x256⟩ := HV.out 0 (by omega)
    rw [Nat.add_zero] at c0
    obtain ⟨x, ex⟩ : ∃ x, x = gd s 0 := ⟨_, rfl⟩
    have HE : Hid (R = if x < 128 then (⟨false, 0, 1, true⟩ : Pt) else if x % 64 < 56 then ⟨decide (192 ≤ x), 1, 1 + x % 64, decide (1 + x % 64 ≤ n)⟩ else match ptL s (x % 64 - 55) 1 0 with | none => ptZ | some m => ⟨decide (192 ≤ x), 1 + (x % 64 - 55), 1 + (x % 64 - 55) + m, decide (1 + (x % 64 - 55) + m ≤ n)⟩) := by
      show _ = _
      rw [HR.out, ptF, if_neg (by rw [← HN.out]; exact h0), ex, HN.out]
    rw [← ex] at c0 x256
    clear ex HR h0
    have q8 : ((x : Nat) : Int) % 18446744073709551616 = (x : Int) := by omega
    have qt : (x : Int).tmod 64 = (x : Int) % 64 := Int.tmod_eq_emod_of_nonneg (by omega)
    by_cases h1 : x < 128
    · have i1 : (x : Int) < 128 := by omega
      have HF : Hid (R = ⟨false, 0, 1, true⟩) := by show _ = _; rw [HE.out, if_pos h1]
      clear HE h1
      go_enter Tryz.func130, Tryz.ntmps130
      go_wp2_with fail
      refine bodyPost_ret (res4t rfl _ _ _ _ _ _ rfl rfl rfl rfl) rfl ?_
      rw [HF.out]
      exact ⟨rfl, rfl⟩
    · have i1 : ¬ (x : Int) < 128 := by omega
      obtain ⟨l, el⟩ : ∃ l, l = decide ((192 : Int) ≤ (x : Int)) := ⟨_, rfl⟩
      have el2 : decide (192 ≤ x) = l := by rw [el]; by_cases q : 192 ≤ x <;> simp [q] <;> omega
      obtain ⟨d, ed⟩ : ∃ d, d = x % 64 := ⟨_, rfl⟩
      have ed2 : (x : Int) % 64 = (d : Int) := by omega
      have d64 : d < 64 := by omega
      have HE2 : Hid (R = if d < 56 then (⟨l, 1, 1 + d, decide (1 + d ≤ n)⟩ : Pt) else match ptL s (d - 55) 1 0 with | none => ptZ | some m => ⟨l, 1 + (d - 55), 1 + (d - 55) + m, decide (1 + (d - 55) + m ≤ n)⟩) := by
        show _ = _
        rw [HE.out, if_neg h1, el2, ed]
      have el3 := el.symm
      clear HE h1 el2 ed el
      by_cases h2 : d < 56
      · have i2 : (d : Int) < 56 := by omega
        have HF : Hid (R = ⟨l, 1, 1 + d, decide (1 + d ≤ n)⟩) := by show _ = _; rw [HE2.out, if_pos h2]
        have j2 : decide ((1 : Int) + (d : Int) ≤ (n : Int)) = decide (1 + d ≤ n) := by by_cases q : 1 + d ≤ n <;> simp [q] <;> omega
        clear HE2 h2
        go_enter Tryz.func130, Tryz.ntmps130
        go_wp2_with fail
        refine bodyPost_ret (res4t rfl _ _ _ _ _ _ rfl rfl rfl rfl) rfl ?_
        rw [HF.out, ← j2]
        exact ⟨rfl, rfl⟩
      · have i2 : ¬ (d : Int) < 56 := by omega
        obtain ⟨k, ek⟩ : ∃ k, k = d - 55 := ⟨_, rfl⟩
        have ek2 : (d : Int) - 55 = (k : Int) := by omega
        have k8 : k ≤ 8 := by omega
        have HF : Hid (R = match ptL s k 1 0 with | none => ptZ | some m => ⟨l, 1 + k, 1 + k + m, decide (1 + k + m ≤ n)⟩) := by show _ = _; rw [HE2.out, if_neg h2, ek]
        clear HE2 h2 ek
        go_enter Tryz.func130, Tryz.ntmps130
        go_wp2_with fail
        go_loopg [9, 10] k (fun gg u v wr => ∃ (i m : Nat), 1 ≤ i ∧ i ≤ k + 1 ∧ gg = k + 1 - i ∧ u = .int .i64 m ∧ v = .int .i64 i ∧ ptL s k 1 0 = ptL s (k + 1 - i) i m ∧ m ≤ 268435711 ∧ wr = w)
        case atStart => exact ⟨1, 0, by omega, by omega, by omega, rfl, rfl, by rw [show k + 1 - 1 = k by omega], by omega, rfl⟩
        case round =>
          obtain ⟨i, m, hi1, hik, rfl, rfl, rfl, hp, hm, rfl⟩ := hrel
          have HP : Hid (ptL s k 1 0 = ptL s (k + 1 - i) i m) := hp
          clear hp
          by_cases hin : i ≤ k
          · have j1 : (i : Int) ≤ k := by omega
            have HU : Hid (ptL s k 1 0 = if s.length ≤ i ∨ 1048576 < m then none else ptL s (k + 1 - (i + 1)) (i + 1) (256 * m + gd s i)) := by
              show _ = _
              rw [HP.out, show k + 1 - i = (k + 1 - (i + 1)) + 1 by omega, ptL]
            by_cases hni : n ≤ i
            · have j2 : (n : Int) ≤ i := by omega
              have HG : Hid (R = ptZ) := by show _ = _; rw [HF.out, HU.out, if_pos (Or.inl (by rw [← HN.out]; exact hni))]
              clear HF HU HP
              go_wp2_with fail
              refine bodyPost_ret (res4t rfl _ _ _ _ _ _ rfl rfl rfl rfl) rfl ?_
              rw [HG.out]
              exact ⟨rfl, rfl⟩
            · have j2 : ¬ (n : Int) ≤ i := by omega
              have j2b : (i : Int) < n := by omega
              by_cases hm2 : 1048576 < m
              · have j3 : (1048576 : Int) < m := by omega
                have HG : Hid (R = ptZ) := by show _ = _; rw [HF.out, HU.out, if_pos (Or.inr hm2)]
                clear HF HU HP
                go_wp2_with fail
                refine bodyPost_ret (res4t rfl _ _ _ _ _ _ rfl rfl rfl rfl) rfl ?_
                rw [HG.out]
                exact ⟨rfl, rfl⟩
              · have j3 : ¬ (1048576 : Int) < m := by omega
                obtain ⟨-, c1, y256⟩ := HV.out i (by omega)
                have HG : Hid (ptL s k 1 0 = ptL s (k + 1 - (i + 1)) (i + 1) (256 * m + gd s i)) := by show _ = _; rw [HU.out, if_neg (by rw [← HN.out]; omega)]
                generalize gd s i = y at c1 y256 HG
                have q9 : ((y : Nat) : Int) % 18446744073709551616 = (y : Int) := by omega
                clear HU HP
                go_wp2_with fail
                go_roundg (k + 1 - (i + 1))
                case measure => omega
                case rel => exact ⟨i + 1, 256 * m + y, by omega, by omega, rfl, by go_num, by go_num, HG.out, by omega, rfl⟩
          · have j1 : ¬ (i : Int) ≤ k := by omega
            have ei : i = k + 1 := by omega
            subst ei
            have HG : Hid (R = ⟨l, 1 + k, 1 + k + m, decide (1 + k + m ≤ n)⟩) := by
              show _ = _
              rw [HF.out, HP.out, show k + 1 - (k + 1) = 0 by omega, ptL]
            have j4 : decide ((1 : Int) + (k : Int) + (m : Int) ≤ (n : Int)) = decide (1 + k + m ≤ n) := by by_cases q : 1 + k + m ≤ n <;> simp [q] <;> omega
            clear HF HP
            go_wp2_with fail
            refine bodyPost_ret (res4t rfl _ _ _ _ _ _ rfl rfl rfl rfl) rfl ?_
            rw [HG.out, ← j4]
            exact ⟨rfl, rfl⟩
end Go.Proofs.YtepeolbbplodfaaGreatDoor

/-
  cairnref07: content.
-/
namespace Go.Proofs.YtepeolbbplodfaaGreatDoor
open Go.RowKit

theorem ptF_le (s : List Nat) : (ptF s).a ≤ (ptF s).e := by
  unfold ptF ptZ
  split
  · exact Nat.le_refl _
  · split
    · exact Nat.zero_le _
    · split
      · exact Nat.le_add_right _ _
      · split
        · exact Nat.le_refl _
        · exact Nat.le_add_right _ _
/-- a piece of bytes -/
theorem vb_cut {w : World} {a : Option Addr} {b off c l z : Nat} {s : List Nat} (hv : Vw w a b off s) (hc : s.length ≤ c) (hn : a = none → c = 0) (hl : s.length ≤ 140737488351232) (h1 : l ≤ z) (h2 : z ≤ s.length) :
    Vw w (behind a c l) b (off + l) (cut s l z) ∧ (behind a c l = none → c - l = 0) := by
  have e : (cut s l z).length = z - l := cut_len h2
  refine ⟨⟨fun q => ?_, fun i hi => ?_, fun i hi => ?_, by rw [e]; omega⟩, fun q => ?_⟩
  · rw [e] at q
    have := hv.at_ (by omega)
    subst this
    unfold behind
    rw [if_neg (by omega)]
    simp [Go.WideShapes.add_plain]
  · rw [e] at hi
    have := hv.cell (l + i) (by omega)
    rw [cut_gd (by omega), Nat.add_assoc]
    exact this
  · rw [e] at hi
    have := hv.bd (l + i) (by omega)
    rw [cut_gd (by omega)]
    exact this
  · cases a with
    | none => have := hn rfl; omega
    | some p =>
      unfold behind at q
      split at q
      · omega
      · simp at q
set_option maxRecDepth 100000 in
set_option maxHeartbeats 1600000 in
theorem rcontent_any {w : World} {v : Value} {s : List Nat} (h : Vb w v s) (he : (ptF s).e ≤ s.length) :
    Calls Tryz.prog 123 #[v] w fun e w' => ∃ u, e = .returned (.tuple #[u, .bool ((ptF s).ok && !(ptF s).l)]) ∧ w'.ownsRow w.heap.size 5 1 u (cut s (ptF s).a (ptF s).e).length (bv (cut s (ptF s).a (ptF s).e)) ∧ Below w.heap.size w w' := by
  have K := rpart_any h
  have hae := ptF_le s
  unfold Pt.v at K
  generalize ptF s = P at *
  obtain ⟨l, A, E, ok⟩ := P
  simp only at K hae he ⊢
  obtain ⟨a, b2, off, c, rfl, hv, hc, hnil, hsl⟩ := h
  have sb := slice_both a s.length c A E hae (by omega)
  obtain ⟨hcv, hcn⟩ := vb_cut hv hc hnil hsl hae he
  have cl : (cut s A E).length = E - A := cut_len he
  obtain ⟨t, et⟩ : ∃ t, t = cut s A E := ⟨_, rfl⟩
  rw [← et] at hcv cl ⊢
  obtain ⟨bh, ebh⟩ : ∃ bh, bh = behind a c A := ⟨_, rfl⟩
  rw [← ebh] at hcv hcn sb
  obtain ⟨d, ed⟩ : ∃ d, d = E - A := ⟨_, rfl⟩
  rw [← ed] at cl sb
  have d47 : d ≤ 140737488351232 := by omega
  have HV : Hid (View (w.alloc (.cells #[] 5)) bh b2 (off + A) d (fun i => ((gd t i : Nat) : Int))) := by
    have := hcv.below (below_alloc w (.cells #[] 5))
    unfold Vw at this
    rw [cl] at this
    exact this
  have own0 := World.ownsRow_lit (base := w.heap.size) (e := 5) (size := 1) w #[] 0 (Nat.le_refl _) (by decide) rfl
  have HT : Hid (t.length = d ∧ (bh = none → c - A = 0)) := ⟨cl, hcn⟩
  generalize s.length = n at *
  clear hv hcv hcn cl et ebh ed hnil hae
  cases ok with
  | true =>
    go_enter Tryz.func123, Tryz.ntmps123
    go_wp2_with (first
      | (go_at_call 130; refine K.mono ?_; rintro e w1 ⟨rfl, rfl⟩; clear K)
      | (refine wpList_append_bytes (by rfl) (.tmp 15) (.tmp 19) (by rfl) w1.heap.size _ 0 _ (by rfl) own0 bh b2 (off + A) d (c - A) _ (by rfl) HV.out HT.out.2 (by omega) (by simp) ?_; intro v2 w2 own2 gr2 nn2; have HZ : Hid (w2.ownsRow w1.heap.size 5 1 v2 t.length (bv t) ∧ Below w1.heap.size w1 w2) := ⟨by rw [← vals_bv, HT.out.1]; simpa using own2, (below_alloc w1 _).trans (grown_below gr2 own0 (Nat.le_refl _) (by simp))⟩; clear own2 gr2 nn2 own0))
    go_ret2
    exact ⟨_, rfl, HZ.out⟩
  | false =>
    go_enter Tryz.func123, Tryz.ntmps123
    go_wp2_with (first
      | (go_at_call 130; refine K.mono ?_; rintro e w1 ⟨rfl, rfl⟩; clear K)
      | (refine wpList_append_bytes (by rfl) (.tmp 15) (.tmp 19) (by rfl) w1.heap.size _ 0 _ (by rfl) own0 bh b2 (off + A) d (c - A) _ (by rfl) HV.out HT.out.2 (by omega) (by simp) ?_; intro v2 w2 own2 gr2 nn2; have HZ : Hid (w2.ownsRow w1.heap.size 5 1 v2 t.length (bv t) ∧ Below w1.heap.size w1 w2) := ⟨by rw [← vals_bv, HT.out.1]; simpa using own2, (below_alloc w1 _).trans (grown_below gr2 own0 (Nat.le_refl _) (by simp))⟩; clear own2 gr2 nn2 own0))
    go_ret2
    exact ⟨_, rfl, HZ.out⟩
end Go.Proofs.YtepeolbbplodfaaGreatDoor

/-
  cairnref07: item, empty.
-/
namespace Go.Proofs.YtepeolbbplodfaaGreatDoor
open Go.RowKit

/-- how a ref stands in a list -/
def itF (r : Rf) : List Nat := if r.k = 2 then r.b else if r.k = 1 then sF r.h else sF []
theorem vb_rng {w : World} {b off : Nat} {s : List Nat} (h : w.rangeAt b off (bv s)) (hs : ∀ x ∈ s, x < 256) (hl : s.length ≤ 1048576) {n : Nat} (hn : s.length = n) : Vb w (.slice (some ⟨b, off, none⟩) n n) s := by
  subst hn
  exact ⟨_, b, off, s.length, rfl, ⟨fun _ => rfl, fun i hi => h i _ (bv_at hi), fun i hi => by have := gd_lt hs i; omega, by omega⟩, Nat.le_refl _, (fun h => by cases h), by omega⟩
theorem sF_len {b : List Nat} (h : b.length ≤ 1048576) : (sF b).length ≤ 1048592 := by
  by_cases ha : alone b = true
  · rw [sF_alone ha]; omega
  · rw [sF_head ha, List.length_append]
    have := hdr_len16 (base := 128) (n := b.length) (by omega)
    omega
theorem sF_byt {b : List Nat} (h : b.length ≤ 1048576) (hb : ∀ x ∈ b, x < 256) : ∀ x ∈ sF b, x < 256 := form_str_byt hb h
set_option maxRecDepth 100000 in
set_option maxHeartbeats 1600000 in
theorem ritem_any {w : World} {r : Rf} {v : Value} (hW : r.W) (hb : Vb w v r.b) : Calls Tryz.prog 77 #[.agg (rcs r v).toArray] w fun e w' => ∃ v', e = .returned v' ∧ Vb w' v' (itF r) ∧ Below w.heap.size w w' := by
  have B1 : Below w.heap.size w (w.alloc (.cells (rcs r v).toArray 107)) := below_alloc _ _
  have hvn : Vb (w.alloc (.cells (rcs r v).toArray 107)) v r.b := Rel.keep hb B1
  obtain ⟨c0, c1, c2⟩ := rng_ref hW.1 (rng_ref_new w r v 107)
  rw [Nat.zero_add] at c1 c2
  by_cases k2 : r.k = 2
  · have HE : Hid (itF r = r.b) := by show _ = _; unfold itF; rw [if_pos k2]
    have HX : Hid (Vb (w.alloc (.cells (rcs r v).toArray 107)) v r.b ∧ Below w.heap.size w (w.alloc (.cells (rcs r v).toArray 107))) := ⟨hvn, B1⟩
    rw [k2] at c0
    obtain ⟨a, b, off, c, rfl, -⟩ := hb
    generalize r.b.length = n at *
    clear k2 hW hvn B1 c1
    go_enter Tryz.func77, Tryz.ntmps77
    go_wp2_with fail
    go_ret
    rw [HE.out]
    exact ⟨_, rfl, HX.out⟩
  · have j2 : (r.k == 2) = false := by simpa using k2
    by_cases k1 : r.k = 1
    · have HE : Hid (itF r = sF r.h) := by show _ = _; unfold itF; rw [if_neg k2, if_pos k1]
      have K := rstr_any (vb_rng c1 hW.2.1 (by rw [hW.1]; omega) hW.1) (by rw [hW.1]; omega)
      have HX : Hid (r.W ∧ Below w.heap.size w (w.alloc (.cells (rcs r v).toArray 107))) := ⟨hW, B1⟩
      rw [k1] at c0
      clear k1 k2 j2 hvn B1 hW c1 c2 hb
      go_enter Tryz.func77, Tryz.ntmps77
      go_wp2_with (go_at_call 75; refine K.mono ?_; rintro e w1 ⟨v1, rfl, ho1, b1⟩; have HZ : Hid (Vb w1 v1 (sF r.h) ∧ Below w.heap.size w w1) := ⟨vb_of_own ho1 rfl (sF_byt (by rw [HX.out.1.1]; omega) HX.out.1.2.1) (by have := sF_len (b := r.h) (by rw [HX.out.1.1]; omega); omega), ch HX.out.2 b1⟩; clear ho1 b1 K)
      go_ret
      rw [HE.out]
      exact ⟨_, rfl, HZ.out⟩
    · have j1 : (r.k == 1) = false := by simpa using k1
      have HE : Hid (itF r = sF []) := by show _ = _; unfold itF; rw [if_neg k2, if_neg k1]
      have K := rstr_any (vb_nil (w.alloc (.cells (rcs r v).toArray 107))) (by simp)
      have HX : Hid (Below w.heap.size w (w.alloc (.cells (rcs r v).toArray 107))) := B1
      obtain ⟨q, eq⟩ : ∃ q, q = sF [] := ⟨_, rfl⟩
      rw [← eq] at K HE
      have HQ : Hid (∀ {B : Nat} {w1 : World} {v1 : Value}, w1.ownsRow B 5 1 v1 q.length (bv q) → Vb w1 v1 q) := fun h => by
        subst eq
        exact vb_of_own h rfl (sF_byt (by simp) (by simp)) (by have := sF_len (b := []) (by simp); omega)
      clear k1 k2 hvn B1 hW c1 c2 hb eq
      go_enter Tryz.func77, Tryz.ntmps77
      go_wp2_with (go_at_call 75; refine K.mono ?_; rintro e w1 ⟨v1, rfl, ho1, b1⟩; have HZ : Hid (Vb w1 v1 q ∧ Below w.heap.size w w1) := ⟨HQ.out ho1, ch HX.out b1⟩; clear ho1 b1 K)
      go_ret
      rw [HE.out]
      exact ⟨_, rfl, HZ.out⟩
set_option maxRecDepth 100000 in
set_option maxHeartbeats 1600000 in
theorem rempty_any {w : World} {r : Rf} {v : Value} (hW : r.W) (hb : Vb w v r.b) : Calls Tryz.prog 105 #[.agg (rcs r v).toArray] w fun e w' => e = .returned (.bool (isNo r)) ∧ Below w.heap.size w w' := by
  have B1 : Below w.heap.size w (w.alloc (.cells (rcs r v).toArray 107)) := below_alloc _ _
  obtain ⟨c0, c1, c2⟩ := rng_ref hW.1 (rng_ref_new w r v 107)
  rw [Nat.zero_add] at c1 c2
  have heq := fun w0 => eq_hash w0 r.h z32 hW.1 hW.2.1 z32_len z32_lt
  obtain ⟨a, b, off, c, rfl, hv, hc, -, hl⟩ := hb
  obtain ⟨n, en⟩ : ∃ n, n = r.b.length := ⟨_, rfl⟩
  have HI : Hid (isNo r = (decide (r.k = 0) && (decide (r.h = z32) && decide (n = 0)))) := by show _ = _; rw [en]; rfl
  rw [← en] at hl hc c2 B1 ⊢ c0 c1
  have HB : Hid (Below w.heap.size w (w.alloc (.cells (rcs r (.slice a n c)).toArray 107))) := B1
  have hh := hW.1
  clear en B1 hW hv
  by_cases k0 : r.k = 0
  · rw [k0] at c0
    have HK : Hid (r.k = 0) := k0
    clear k0
    by_cases hz : r.h = z32
    · rw [decide_eq_true hz] at heq
      have HZ : Hid (r.h = z32) := hz
      clear hz
      by_cases h0 : n = 0
      · subst h0
        go_enter Tryz.func105, Tryz.ntmps105
        go_wp2_with (first | refine wpList_ld24 (by kernel_rfl) _ (by rfl) _ _ _ hh c1 (by rfl) ?_ | refine wpList_bd24 (by kernel_rfl) (by rfl) ?_)
        go_ret
        rw [HI.out, decide_eq_true HK.out, decide_eq_true HZ.out]
        exact ⟨rfl, HB.out⟩
      · have i0 : ¬ (n : Int) = 0 := by omega
        have i0b : ((n : Int) == 0) = false := by simpa using i0
        have HF : Hid (decide (n = 0) = false) := decide_eq_false h0
        go_enter Tryz.func105, Tryz.ntmps105
        go_wp2_with (first | refine wpList_ld24 (by kernel_rfl) _ (by rfl) _ _ _ hh c1 (by rfl) ?_ | refine wpList_bd24 (by kernel_rfl) (by rfl) ?_)
        go_ret
        rw [HI.out, decide_eq_true HK.out, decide_eq_true HZ.out, HF.out]
        exact ⟨rfl, HB.out⟩
    · rw [decide_eq_false hz] at heq
      have HZ : Hid (decide (r.h = z32) = false) := decide_eq_false hz
      go_enter Tryz.func105, Tryz.ntmps105
      go_wp2_with (first | refine wpList_ld24 (by kernel_rfl) _ (by rfl) _ _ _ hh c1 (by rfl) ?_ | refine wpList_bd24 (by kernel_rfl) (by rfl) ?_)
      go_ret
      rw [HI.out, decide_eq_true HK.out, HZ.out]
      exact ⟨rfl, HB.out⟩
  · have j0 : (r.k == 0) = false := by simpa using k0
    have HK : Hid (decide (r.k = 0) = false) := decide_eq_false k0
    go_enter Tryz.func105, Tryz.ntmps105
    go_wp2_with fail
    go_ret
    rw [HI.out, HK.out]
    exact ⟨rfl, HB.out⟩
end Go.Proofs.YtepeolbbplodfaaGreatDoor
