import Derived.Test.YtpiinkfcaoaffaaMnzz
import Derived.Test.YtpiinkfcaoaffaaEnczz
import Derived.Test.YtpiinkfcaoaffaaDczz
import Derived.Test.YtpiinkfcaoaffaaYrzz
/-
  refOf: the ref that an item stands for.
-/
namespace Go.Proofs.Ytpiinkfcaoaffaa
open Go.RowKit
theorem fill_step {place : Nat → Option (Nat × Nat)} {cells : Array Value} {i off size : Nat} {v : Value} {rest : List (Nat × Value)} (hp : place i = some (off, size)) (hs : v.cells.size = size) (hl : off + size ≤ cells.size) :
    Instr.fill place cells ((i, v) :: rest) = Instr.fill place (v.cells.zipIdx.foldl (fun cs (c, j) => cs.setIfInBounds (off + j) c) cells) rest := by
  rw [Instr.fill, hp]
  simp only [hs]
  rw [if_neg (by simp; omega)]
theorem built26_fill (parts : List (Nat × Value)) : Try.prog.built 26 parts = Instr.fill (fun i => (#[(0, 1), (1, 32), (33, 1)] : Array (Nat × Nat))[i]?) (rcs rz (.slice none 0 0)).toArray parts := by kernel_rfl
theorem built29_fill (parts : List (Nat × Value)) : Try.prog.built 29 parts = Instr.fill (fun i => (#[(0, 1), (1, 1), (2, 1), (3, 1), (4, 34), (38, 544)] : Array (Nat × Nat))[i]?) (nc nz uz).toArray parts := by kernel_rfl
/-- cells laid over others, as a list -/
theorem fold_list (off : Nat) (a x x' b : List Value) (ha : a.length = off) (hx : x'.length = x.length) :
    (x'.toArray.zipIdx.foldl (fun (cs : Array Value) (p : Value × Nat) => cs.setIfInBounds (off + p.2) p.1) (a ++ (x ++ b)).toArray) = (a ++ (x' ++ b)).toArray := by
  have key := fold_set off x' 0 (a ++ (x ++ b)).toArray (by simp; omega)
  have e : x'.toArray.zipIdx.foldl (fun (cs : Array Value) (p : Value × Nat) => cs.setIfInBounds (off + p.2) p.1) (a ++ (x ++ b)).toArray = (x'.zipIdx 0).foldl (fun (cs : Array Value) (p : Value × Nat) => cs.setIfInBounds (off + p.2) p.1) (a ++ (x ++ b)).toArray := by
    rw [← Array.foldl_toList]
    simp
  rw [e]
  apply Array.ext_getElem?
  intro i
  rw [key.2 i]
  simp only [List.getElem?_toArray, Nat.add_zero]
  by_cases h1 : off ≤ i ∧ i < off + x'.length
  · rw [if_pos h1, List.getElem?_append_right (by omega), List.getElem?_append_left (by omega), ha]
  · rw [if_neg h1]
    by_cases h2 : i < off
    · rw [List.getElem?_append_left (by omega), List.getElem?_append_left (by omega)]
    · rw [List.getElem?_append_right (by omega), List.getElem?_append_right (by omega), List.getElem?_append_right (by omega), List.getElem?_append_right (by omega), hx]
theorem built26_hash (s : List Nat) (hs : s.length = 32) : Try.prog.built 26 [(0, .int .i64 1), (1, .agg (bv s).toArray)] = some (rcs ⟨1, s, []⟩ (.slice none 0 0)).toArray := by
  rw [built26_fill, fill_step (off := 0) (size := 1) rfl rfl (by rw [List.size_toArray, rcs_len z32_len]; omega)]
  have e : ((Value.int .i64 1).cells.zipIdx.foldl (fun (cs : Array Value) (p : Value × Nat) => cs.setIfInBounds (0 + p.2) p.1) (rcs rz (.slice none 0 0)).toArray) = ([Value.int .i64 1] ++ (bv z32 ++ [Value.slice none 0 0])).toArray := by kernel_rfl
  rw [e, fill_step (off := 1) (size := 32) rfl (by simp [Value.cells, bv_len, hs]) (by simp [bv_len, z32_len])]
  rw [show (Value.agg (bv s).toArray).cells = (bv s).toArray from rfl, fold_list 1 _ _ (bv s) _ rfl (by rw [bv_len, bv_len, hs, z32_len])]
  rfl
theorem own_of_str {w' : World} {B : Nat} {v : Value} {s : List Nat} (h : Str w' (fun i => B ≤ i) v s) : w'.ownsRow B 5 1 v s.length (bv s) := own_rebase h.own h.foot
theorem wpList_bdL {ops : Array Oper} {rest : List Oper} {op : Oper} {a : Act} {w : World} {Q : Exit → Act → World → Prop} (hw : Region.wanted op (yielded ops a.tmps) = true) (t : TypeId) (L : List (Nat × Operand)) (ho : op.op = .build t L.toArray) (cells : Array Value)
    (hb : Try.prog.built t (L.map fun (i, x) => (i, a.eval x)) = some cells) (h : wpList Try.prog ops Q rest (a.put op.dst (.agg cells)) w) : wpList Try.prog ops Q (op :: rest) a w :=
  wpList_bd hw t _ ho cells (by simp only [List.map_toArray]; exact hb) h
theorem own_setRow {w : World} {B B' g n : Nat} {v : Value} {xs : List Value} (h : w.ownsRow B 5 1 v n xs) (hg : g < B) (hB : B' ≤ B) (cs : Array Value) : (w.setRow g cs).ownsRow B' 5 1 v n xs :=
  own_rebase (own_same h (fun q hq => setRow_other w g q cs (by have := (h.lt q hq).1; omega))) (fun q hq => by have := (h.lt q hq).1; omega)
theorem arrayAt24 (w : World) (p : Option Addr) (c : Nat) : (Instr.arrayAt 24 (.slice p 32 c)).run Try.prog w = .ok (.pointer p) w := by
  simp [Instr.arrayAt, run_underlying Try.underlying24]
/-- what refOf answers -/
def RofPst (x : It) (w : World) (e : Ending) (w' : World) : Prop :=
  ∃ v, e = .returned (.tuple #[.agg (rcs ((itR x).getD rz) v).toArray, .bool (itR x).isSome]) ∧ w'.ownsRow w.heap.size 5 1 v ((itR x).getD rz).b.length (bv ((itR x).getD rz).b) ∧ Below w.heap.size w w' ∧ ∀ y ∈ ((itR x).getD rz).b, y < 256
theorem vb_range {w : World} {a : Option Addr} {b off n : Nat} {s : List Nat} (h : Vw w a b off s) (hn : s.length = n) (h0 : 0 < n) : a = some ⟨b, off, none⟩ ∧ w.rangeAt b off (bv s) := by
  refine ⟨h.at_ (by omega), fun j v hv => ?_⟩
  have hj : j < s.length := by rw [← bv_len s]; exact (List.getElem?_eq_some_iff.1 hv).1
  rw [bv_at hj] at hv
  rw [← hv]
  exact h.cell j hj
theorem res2a {fn : Func} {p t : Tmp} (h : fn.results = #[.cell p 26, .tmp t]) (tmps : Array Value) (w : World) (g : Nat) (r : Rf) (v : Value) (q : Value) (hr : r.h.length = 32) (hg : w.rangeAt g 0 (rcs r v)) (hp : tmps.getD p undef = .pointer (some ⟨g, 0, none⟩)) (ht : tmps.getD t undef = q) :
    (results fn tmps).run Try.prog w = .ok (.tuple #[.agg (rcs r v).toArray, q]) w :=
  res2 h tmps w g _ _ hp ht (run_loadVar_mid w g 0 26 _ _ hg Try.underlying26 rfl (info_rcs hr v))
set_option maxRecDepth 100000 in
set_option maxHeartbeats 1600000 in
theorem refOf_any {w : World} {x : It} {vb vi : Value} (h : Lies Vb w x vb vi) : Calls Try.prog 51 #[iv x.l vb vi] w (RofPst x w) := by
  have hz := zv26
  have har := arrayAt24
  obtain ⟨a1, n1, k1, a2, n2, k2, rfl, rfl⟩ := h.form
  obtain ⟨l, el⟩ : ∃ l, l = x.l := ⟨_, rfl⟩
  rw [← el]
  have HEL : Hid (l = x.l) := el
  have BB : ∀ lb, Below w.heap.size w ((w.alloc (.cells #[.bool lb, .slice a1 n1 k1, .slice a2 n2 k2] 51)).alloc (.cells (rcs rz (.slice none 0 0)).toArray 26)) := fun lb => (below_alloc _ _).alloc (by simp) _
  have hg : ∀ lb, ((w.alloc (.cells #[.bool lb, .slice a1 n1 k1, .slice a2 n2 k2] 51)).alloc (.cells (rcs rz (.slice none 0 0)).toArray 26)).heap[w.heap.size + 1]? = some (.cells (rcs rz (.slice none 0 0)).toArray 26 (0, 0)) := fun lb => by
    have := heap_alloc_new (w.alloc (.cells #[.bool lb, .slice a1 n1 k1, .slice a2 n2 k2] 51)) (.cells (rcs rz (.slice none 0 0)).toArray 26)
    simpa using this
  clear el
  cases l with
  | true =>
    have HR : Hid (itR x = some ⟨2, z32, enc x⟩) := by
      show itR x = _
      unfold itR
      rw [← HEL.out, if_pos rfl]
    have K := encode_any x _ _ _ (h.keep (BB true))
    rw [← HEL.out] at K
    have g0 := hg true
    clear h hg
    go_enter Try.func51, Try.ntmps51
    have HBD : Hid (∀ (a3 : Option Addr) (c3 : Nat), Try.prog.built 26 [(0, .int .i64 2), (2, .slice a3 (enc x).length c3)] = some (rcs ⟨2, z32, enc x⟩ (.slice a3 (enc x).length c3)).toArray) := fun a3 c3 => by kernel_rfl
    have HBB : Hid (Below w.heap.size w ((w.alloc (.cells #[.bool true, .slice a1 n1 k1, .slice a2 n2 k2] 51)).alloc (.cells (rcs rz (.slice none 0 0)).toArray 26))) := BB true
    clear BB
    go_wp2_with (first
      | (go_at_call 16; refine K.mono ?_; rintro e w3 ⟨v, rfl, hs, hb⟩; have own := own_of_str hs; have HY : Hid (∀ y ∈ enc x, y < 256) := hs.ok.2; obtain ⟨a3, c3, rfl⟩ := own_slice own; have g3 := (hb.block (w.heap.size + 1) (by simp)).trans g0; have HZ : Hid (Below w.heap.size w w3 ∧ w3.ownsRow ((w.alloc (.cells #[.bool true, .slice a1 n1 k1, .slice a2 n2 k2] 51)).alloc (.cells (rcs rz (.slice none 0 0)).toArray 26)).heap.size 5 1 (.slice a3 (enc x).length c3) (enc x).length (bv (enc x))) := ⟨ch HBB.out hb, own⟩; have bd := HBD.out a3 c3; clear hs own hb g0 K)
      | refine wpList_bdL (by kernel_rfl) _ _ (by rfl) _ bd ?_
      | refine wpList_st26b (by kernel_rfl) _ _ (by rfl) _ ⟨2, z32, enc x⟩ rz (.slice a3 (enc x).length c3) (.slice none 0 0) z32_len z32_len (by rfl) g3 (by rfl) (by rfl) ?_)
    have hr3 := setRow_heap w3 (w.heap.size + 1) _ (rcs ⟨2, z32, enc x⟩ (.slice a3 (enc x).length c3)).toArray _ _ g3
    refine bodyPost_ret (res2a rfl _ _ (w.heap.size + 1) _ _ _ z32_len (rng_row hr3) rfl rfl) rfl ?_
    refine ⟨.slice a3 (enc x).length c3, by rw [HR.out]; rfl, ?_, below_setRow HZ.out.1 (by omega) _, by rw [HR.out]; exact HY.out⟩
    rw [HR.out]
    exact own_setRow HZ.out.2 (by simp) (by simp; omega) _
  | false =>
    have HBB : Hid (Below w.heap.size w ((w.alloc (.cells #[.bool false, .slice a1 n1 k1, .slice a2 n2 k2] 51)).alloc (.cells (rcs rz (.slice none 0 0)).toArray 26))) := BB false
    have g0 := hg false
    obtain ⟨n, en⟩ : ∃ n, n = x.b.length := ⟨_, rfl⟩
    have HV : ∃ bk off, n1 = n ∧ Vw ((w.alloc (.cells #[.bool false, .slice a1 n1 k1, .slice a2 n2 k2] 51)).alloc (.cells (rcs rz (.slice none 0 0)).toArray 26)) a1 bk off x.b := by
      have hk := h.keep (BB false)
      rw [It.eta x] at hk
      obtain ⟨a', c', a, c, blk, off, e1, e2, hR, -⟩ := hk.opened
      obtain ⟨a'', b'', off'', c'', e3, hv, -⟩ := hR
      injection e1 with e1a e1b e1c
      injection e3 with e3a e3b e3c
      subst e3a
      exact ⟨b'', off'', by rw [e1b, en], hv⟩
    obtain ⟨bk, off, rfl, hv⟩ := HV
    have HR0 : Hid (itR x = if n1 = 0 then some rz else if n1 = 32 then some ⟨1, x.b, []⟩ else none) := by
      show itR x = _
      unfold itR
      rw [← HEL.out, if_neg (by simp), en]
    have hln := hv.len
    rw [← en] at hln
    have HN : Hid (n1 = x.b.length) := en
    have hxb := (vw_ok hv).2
    clear h hg BB en
    by_cases h0 : n1 = 0
    · subst h0
      have HR : Hid (itR x = some rz) := by show itR x = _; rw [HR0.out, if_pos rfl]
      clear hv
      go_enter Try.func51, Try.ntmps51
      go_wp2_with (first
        | refine wpList_bd26 (by kernel_rfl) (by rfl) ?_
        | refine wpList_st26b (by kernel_rfl) _ _ (by rfl) _ rz rz (.slice none 0 0) (.slice none 0 0) z32_len z32_len (by rfl) g0 (by rfl) (by rfl) ?_)
      have hr3 := setRow_heap ((w.alloc (.cells #[.bool false, .slice a1 0 k1, .slice a2 n2 k2] 51)).alloc (.cells (rcs rz (.slice none 0 0)).toArray 26)) (w.heap.size + 1) _ (rcs rz (.slice none 0 0)).toArray _ _ g0
      refine bodyPost_ret (res2a rfl _ _ (w.heap.size + 1) _ _ _ z32_len (rng_row hr3) rfl rfl) rfl ?_
      refine ⟨.slice none 0 0, by rw [HR.out]; rfl, ?_, below_setRow HBB.out (by omega) _, by rw [HR.out]; exact fun y hy => by cases hy⟩
      rw [HR.out]
      exact ⟨rfl, Or.inl ⟨rfl, rfl⟩⟩
    · have j0 : ((n1 : Int) == 0) = false := by simp; omega
      have j0b : ¬ (n1 : Int) = 0 := by omega
      by_cases h32 : n1 = 32
      · subst h32
        obtain ⟨rfl, rg⟩ := vb_range hv HN.out.symm (by omega)
        have HR : Hid (itR x = some ⟨1, x.b, []⟩) := by show itR x = _; rw [HR0.out, if_neg (by omega), if_pos rfl]
        have hs := HN.out.symm
        have bd := built26_hash x.b hs
        have HS : Hid (x.b.length = 32) := hs
        clear hv hs
        go_enter Try.func51, Try.ntmps51
        go_wp2_with (first
          | refine wpList_ld24 (by kernel_rfl) _ (by rfl) _ _ _ HS.out rg (by rfl) ?_
          | refine wpList_bdL (by kernel_rfl) _ _ (by rfl) _ bd ?_
          | refine wpList_st26b (by kernel_rfl) _ _ (by rfl) _ ⟨1, x.b, []⟩ rz (.slice none 0 0) (.slice none 0 0) HS.out z32_len (by rfl) g0 (by rfl) (by rfl) ?_)
        have hr3 := setRow_heap ((w.alloc (.cells #[.bool false, .slice (some ⟨bk, off, none⟩) 32 k1, .slice a2 n2 k2] 51)).alloc (.cells (rcs rz (.slice none 0 0)).toArray 26)) (w.heap.size + 1) _ (rcs ⟨1, x.b, []⟩ (.slice none 0 0)).toArray _ _ g0
        refine bodyPost_ret (res2a rfl _ _ (w.heap.size + 1) _ _ _ HS.out (rng_row hr3) rfl rfl) rfl ?_
        refine ⟨.slice none 0 0, by rw [HR.out]; rfl, ?_, below_setRow HBB.out (by omega) _, by rw [HR.out]; exact fun y hy => by cases hy⟩
        rw [HR.out]
        exact ⟨rfl, Or.inl ⟨rfl, rfl⟩⟩
      · have j32 : ((n1 : Int) == 32) = false := by simp; omega
        have j32b : ¬ (n1 : Int) = 32 := by omega
        have HR : Hid (itR x = none) := by show itR x = _; rw [HR0.out, if_neg h0, if_neg h32]
        clear hv
        go_enter Try.func51, Try.ntmps51
        go_wp2_with (first
          | refine wpList_bd26 (by kernel_rfl) (by rfl) ?_
          | refine wpList_st26b (by kernel_rfl) _ _ (by rfl) _ rz rz (.slice none 0 0) (.slice none 0 0) z32_len z32_len (by rfl) g0 (by rfl) (by rfl) ?_)
        have hr3 := setRow_heap ((w.alloc (.cells #[.bool false, .slice a1 n1 k1, .slice a2 n2 k2] 51)).alloc (.cells (rcs rz (.slice none 0 0)).toArray 26)) (w.heap.size + 1) _ (rcs rz (.slice none 0 0)).toArray _ _ g0
        refine bodyPost_ret (res2a rfl _ _ (w.heap.size + 1) _ _ _ z32_len (rng_row hr3) rfl rfl) rfl ?_
        refine ⟨.slice none 0 0, by rw [HR.out]; rfl, ?_, below_setRow HBB.out (by omega) _, by rw [HR.out]; exact fun y hy => by cases hy⟩
        rw [HR.out]
        exact ⟨rfl, Or.inl ⟨rfl, rfl⟩⟩
end Go.Proofs.Ytpiinkfcaoaffaa
