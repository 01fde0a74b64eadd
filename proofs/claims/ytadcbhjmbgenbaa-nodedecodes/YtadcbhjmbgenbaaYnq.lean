import Derived.Test.YtadcbhjmbgenbaaFiq
import Derived.Test.YtadcbhjmbgenbaaGuq
import Derived.Test.YtadcbhjmbgenbaaMnq
import Derived.Test.YtadcbhjmbgenbaaEncq
import Derived.Test.YtadcbhjmbgenbaaDcq
import Derived.Test.YtadcbhjmbgenbaaYrq
/-
  cairnref07: content.
-/
namespace Go.Proofs.Ytadcbhjmbgenbaa
open Go.RowKit

theorem ptF_le (s : List Nat) : (ptF s).a ≤ (ptF s).e := by
  unfold ptF ptZ
  split
  · exact Nat.le_refl _
  · split
    · exact Nat.zero_le _
    · split
      · exact Nat.le_add_right _ _
      · split
        · exact Nat.le_refl _
        · exact Nat.le_add_right _ _
/-- a piece of bytes -/
theorem vb_cut {w : World} {a : Option Addr} {b off c l z : Nat} {s : List Nat} (hv : Vw w a b off s) (hc : s.length ≤ c) (hn : a = none → c = 0) (hl : s.length ≤ 140737488351232) (h1 : l ≤ z) (h2 : z ≤ s.length) :
    Vw w (behind a c l) b (off + l) (cut s l z) ∧ (behind a c l = none → c - l = 0) := by
  have e : (cut s l z).length = z - l := cut_len h2
  refine ⟨⟨fun q => ?_, fun i hi => ?_, fun i hi => ?_, by rw [e]; omega⟩, fun q => ?_⟩
  · rw [e] at q
    have := hv.at_ (by omega)
    subst this
    unfold behind
    rw [if_neg (by omega)]
    simp [Go.WideShapes.add_plain]
  · rw [e] at hi
    have := hv.cell (l + i) (by omega)
    rw [cut_gd (by omega), Nat.add_assoc]
    exact this
  · rw [e] at hi
    have := hv.bd (l + i) (by omega)
    rw [cut_gd (by omega)]
    exact this
  · cases a with
    | none => have := hn rfl; omega
    | some p =>
      unfold behind at q
      split at q
      · omega
      · simp at q
set_option maxRecDepth 100000 in
set_option maxHeartbeats 1600000 in
theorem rcontent_any {w : World} {v : Value} {s : List Nat} (h : Vb w v s) (he : (ptF s).e ≤ s.length) :
    Calls Try.prog 58 #[v] w fun e w' => ∃ u, e = .returned (.tuple #[u, .bool ((ptF s).ok && !(ptF s).l)]) ∧ w'.ownsRow w.heap.size 5 1 u (cut s (ptF s).a (ptF s).e).length (bv (cut s (ptF s).a (ptF s).e)) ∧ Below w.heap.size w w' := by
  have K := rpart_any h
  have hae := ptF_le s
  unfold Pt.v at K
  generalize ptF s = P at *
  obtain ⟨l, A, E, ok⟩ := P
  simp only at K hae he ⊢
  obtain ⟨a, b2, off, c, rfl, hv, hc, hnil, hsl⟩ := h
  have sb := slice_both a s.length c A E hae (by omega)
  obtain ⟨hcv, hcn⟩ := vb_cut hv hc hnil hsl hae he
  have cl : (cut s A E).length = E - A := cut_len he
  obtain ⟨t, et⟩ : ∃ t, t = cut s A E := ⟨_, rfl⟩
  rw [← et] at hcv cl ⊢
  obtain ⟨bh, ebh⟩ : ∃ bh, bh = behind a c A := ⟨_, rfl⟩
  rw [← ebh] at hcv hcn sb
  obtain ⟨d, ed⟩ : ∃ d, d = E - A := ⟨_, rfl⟩
  rw [← ed] at cl sb
  have d47 : d ≤ 140737488351232 := by omega
  have HV : Hid (View (w.alloc (.cells #[] 5)) bh b2 (off + A) d (fun i => ((gd t i : Nat) : Int))) := by
    have := hcv.below (below_alloc w (.cells #[] 5))
    unfold Vw at this
    rw [cl] at this
    exact this
  have own0 := World.ownsRow_lit (base := w.heap.size) (e := 5) (size := 1) w #[] 0 (Nat.le_refl _) (by decide) rfl
  have HT : Hid (t.length = d ∧ (bh = none → c - A = 0)) := ⟨cl, hcn⟩
  generalize s.length = n at *
  clear hv hcv hcn cl et ebh ed hnil hae
  cases ok with
  | true =>
    go_enter Try.func58, Try.ntmps58
    go_wp2_with (first
      | (go_at_call 78; refine K.mono ?_; rintro e w1 ⟨rfl, rfl⟩; clear K)
      | (refine wpList_append_bytes (by rfl) (.tmp 15) (.tmp 19) (by rfl) w1.heap.size _ 0 _ (by rfl) own0 bh b2 (off + A) d (c - A) _ (by rfl) HV.out HT.out.2 (by omega) (by simp) ?_; intro v2 w2 own2 gr2 nn2; have HZ : Hid (w2.ownsRow w1.heap.size 5 1 v2 t.length (bv t) ∧ Below w1.heap.size w1 w2) := ⟨by rw [← vals_bv, HT.out.1]; simpa using own2, (below_alloc w1 _).trans (grown_below gr2 own0 (Nat.le_refl _) (by simp))⟩; clear own2 gr2 nn2 own0))
    go_ret2
    exact ⟨_, rfl, HZ.out⟩
  | false =>
    go_enter Try.func58, Try.ntmps58
    go_wp2_with (first
      | (go_at_call 78; refine K.mono ?_; rintro e w1 ⟨rfl, rfl⟩; clear K)
      | (refine wpList_append_bytes (by rfl) (.tmp 15) (.tmp 19) (by rfl) w1.heap.size _ 0 _ (by rfl) own0 bh b2 (off + A) d (c - A) _ (by rfl) HV.out HT.out.2 (by omega) (by simp) ?_; intro v2 w2 own2 gr2 nn2; have HZ : Hid (w2.ownsRow w1.heap.size 5 1 v2 t.length (bv t) ∧ Below w1.heap.size w1 w2) := ⟨by rw [← vals_bv, HT.out.1]; simpa using own2, (below_alloc w1 _).trans (grown_below gr2 own0 (Nat.le_refl _) (by simp))⟩; clear own2 gr2 nn2 own0))
    go_ret2
    exact ⟨_, rfl, HZ.out⟩
end Go.Proofs.Ytadcbhjmbgenbaa

/-
  refOf: the ref that an item stands for.
-/
namespace Go.Proofs.Ytadcbhjmbgenbaa
open Go.RowKit

theorem fill_step {place : Nat → Option (Nat × Nat)} {cells : Array Value} {i off size : Nat} {v : Value} {rest : List (Nat × Value)} (hp : place i = some (off, size)) (hs : v.cells.size = size) (hl : off + size ≤ cells.size) :
    Instr.fill place cells ((i, v) :: rest) = Instr.fill place (v.cells.zipIdx.foldl (fun cs (c, j) => cs.setIfInBounds (off + j) c) cells) rest := by
  rw [Instr.fill, hp]
  simp only [hs]
  rw [if_neg (by simp; omega)]
theorem built26_fill (parts : List (Nat × Value)) : Try.prog.built 26 parts = Instr.fill (fun i => (#[(0, 1), (1, 32), (33, 1)] : Array (Nat × Nat))[i]?) (rcs rz (.slice none 0 0)).toArray parts := by kernel_rfl
theorem built29_fill (parts : List (Nat × Value)) : Try.prog.built 29 parts = Instr.fill (fun i => (#[(0, 1), (1, 1), (2, 1), (3, 1), (4, 34), (38, 544)] : Array (Nat × Nat))[i]?) (nc nz uz).toArray parts := by kernel_rfl
/-- cells laid over others, as a list -/
theorem fold_list (off : Nat) (a x x' b : List Value) (ha : a.length = off) (hx : x'.length = x.length) :
    (x'.toArray.zipIdx.foldl (fun (cs : Array Value) (p : Value × Nat) => cs.setIfInBounds (off + p.2) p.1) (a ++ (x ++ b)).toArray) = (a ++ (x' ++ b)).toArray := by
  have key := fold_set off x' 0 (a ++ (x ++ b)).toArray (by simp; omega)
  have e : x'.toArray.zipIdx.foldl (fun (cs : Array Value) (p : Value × Nat) => cs.setIfInBounds (off + p.2) p.1) (a ++ (x ++ b)).toArray = (x'.zipIdx 0).foldl (fun (cs : Array Value) (p : Value × Nat) => cs.setIfInBounds (off + p.2) p.1) (a ++ (x ++ b)).toArray := by
    rw [← Array.foldl_toList]
    simp
  rw [e]
  apply Array.ext_getElem?
  intro i
  rw [key.2 i]
  simp only [List.getElem?_toArray, Nat.add_zero]
  by_cases h1 : off ≤ i ∧ i < off + x'.length
  · rw [if_pos h1, List.getElem?_append_right (by omega), List.getElem?_append_left (by omega), ha]
  · rw [if_neg h1]
    by_cases h2 : i < off
    · rw [List.getElem?_append_left (by omega), List.getElem?_append_left (by omega)]
    · rw [List.getElem?_append_right (by omega), List.getElem?_append_right (by omega), List.getElem?_append_right (by omega), List.getElem?_append_right (by omega), hx]
theorem built26_hash (s : List Nat) (hs : s.length = 32) : Try.prog.built 26 [(0, .int .i64 1), (1, .agg (bv s).toArray)] = some (rcs ⟨1, s, []⟩ (.slice none 0 0)).toArray := by
  rw [built26_fill, fill_step (off := 0) (size := 1) rfl rfl (by rw [List.size_toArray, rcs_len z32_len]; omega)]
  have e : ((Value.int .i64 1).cells.zipIdx.foldl (fun (cs : Array Value) (p : Value × Nat) => cs.setIfInBounds (0 + p.2) p.1) (rcs rz (.slice none 0 0)).toArray) = ([Value.int .i64 1] ++ (bv z32 ++ [Value.slice none 0 0])).toArray := by kernel_rfl
  rw [e, fill_step (off := 1) (size := 32) rfl (by simp [Value.cells, bv_len, hs]) (by simp [bv_len, z32_len])]
  rw [show (Value.agg (bv s).toArray).cells = (bv s).toArray from rfl, fold_list 1 _ _ (bv s) _ rfl (by rw [bv_len, bv_len, hs, z32_len])]
  rfl
theorem own_of_str {w' : World} {B : Nat} {v : Value} {s : List Nat} (h : Str w' (fun i => B ≤ i) v s) : w'.ownsRow B 5 1 v s.length (bv s) := own_rebase h.own h.foot

theorem wpList_bdL {ops : Array Oper} {rest : List Oper} {op : Oper} {a : Act} {w : World} {Q : Exit → Act → World → Prop} (hw : Region.wanted op (yielded ops a.tmps) = true) (t : TypeId) (L : List (Nat × Operand)) (ho : op.op = .build t L.toArray) (cells : Array Value)
    (hb : Try.prog.built t (L.map fun (i, x) => (i, a.eval x)) = some cells) (h : wpList Try.prog ops Q rest (a.put op.dst (.agg cells)) w) : wpList Try.prog ops Q (op :: rest) a w :=
  wpList_bd hw t _ ho cells (by simp only [List.map_toArray]; exact hb) h
theorem own_setRow {w : World} {B B' g n : Nat} {v : Value} {xs : List Value} (h : w.ownsRow B 5 1 v n xs) (hg : g < B) (hB : B' ≤ B) (cs : Array Value) : (w.setRow g cs).ownsRow B' 5 1 v n xs :=
  own_rebase (own_same h (fun q hq => setRow_other w g q cs (by have := (h.lt q hq).1; omega))) (fun q hq => by have := (h.lt q hq).1; omega)
theorem arrayAt24 (w : World) (p : Option Addr) (c : Nat) : (Instr.arrayAt 24 (.slice p 32 c)).run Try.prog w = .ok (.pointer p) w := by
  simp [Instr.arrayAt, run_underlying Try.underlying24]
/-- what refOf answers -/
def RofPst (x : It) (w : World) (e : Ending) (w' : World) : Prop :=
  ∃ v, e = .returned (.tuple #[.agg (rcs ((itR x).getD rz) v).toArray, .bool (itR x).isSome]) ∧ w'.ownsRow w.heap.size 5 1 v ((itR x).getD rz).b.length (bv ((itR x).getD rz).b) ∧ Below w.heap.size w w' ∧ ∀ y ∈ ((itR x).getD rz).b, y < 256
theorem vb_range {w : World} {a : Option Addr} {b off n : Nat} {s : List Nat} (h : Vw w a b off s) (hn : s.length = n) (h0 : 0 < n) : a = some ⟨b, off, none⟩ ∧ w.rangeAt b off (bv s) := by
  refine ⟨h.at_ (by omega), fun j v hv => ?_⟩
  have hj : j < s.length := by rw [← bv_len s]; exact (List.getElem?_eq_some_iff.1 hv).1
  rw [bv_at hj] at hv
  rw [← hv]
  exact h.cell j hj
theorem res2a {fn : Func} {p t : Tmp} (h : fn.results = #[.cell p 26, .tmp t]) (tmps : Array Value) (w : World) (g : Nat) (r : Rf) (v : Value) (q : Value) (hr : r.h.length = 32) (hg : w.rangeAt g 0 (rcs r v)) (hp : tmps.getD p undef = .pointer (some ⟨g, 0, none⟩)) (ht : tmps.getD t undef = q) :
    (results fn tmps).run Try.prog w = .ok (.tuple #[.agg (rcs r v).toArray, q]) w :=
  res2 h tmps w g _ _ hp ht (run_loadVar_mid w g 0 26 _ _ hg Try.underlying26 rfl (info_rcs hr v))
set_option maxRecDepth 100000 in
set_option maxHeartbeats 1600000 in
theorem refOf_any {w : World} {x : It} {vb vi : Value} (h : Lies Vb w x vb vi) : Calls Try.prog 77 #[iv x.l vb vi] w (RofPst x w) := by
  have hz := zv26
  have har := arrayAt24
  obtain ⟨a1, n1, k1, a2, n2, k2, rfl, rfl⟩ := h.form
  obtain ⟨l, el⟩ : ∃ l, l = x.l := ⟨_, rfl⟩
  rw [← el]
  have HEL : Hid (l = x.l) := el
  have BB : ∀ lb, Below w.heap.size w ((w.alloc (.cells #[.bool lb, .slice a1 n1 k1, .slice a2 n2 k2] 62)).alloc (.cells (rcs rz (.slice none 0 0)).toArray 26)) := fun lb => (below_alloc _ _).alloc (by simp) _
  have hg : ∀ lb, ((w.alloc (.cells #[.bool lb, .slice a1 n1 k1, .slice a2 n2 k2] 62)).alloc (.cells (rcs rz (.slice none 0 0)).toArray 26)).heap[w.heap.size + 1]? = some (.cells (rcs rz (.slice none 0 0)).toArray 26 (0, 0)) := fun lb => by
    have := heap_alloc_new (w.alloc (.cells #[.bool lb, .slice a1 n1 k1, .slice a2 n2 k2] 62)) (.cells (rcs rz (.slice none 0 0)).toArray 26)
    simpa using this
  clear el
  cases l with
  | true =>
    have HR : Hid (itR x = some ⟨2, z32, enc x⟩) := by
      show itR x = _
      unfold itR
      rw [← HEL.out, if_pos rfl]
    have K := encode_any x _ _ _ (h.keep (BB true))
    rw [← HEL.out] at K
    have g0 := hg true
    clear h hg
    go_enter Try.func77, Try.ntmps77
    have HBD : Hid (∀ (a3 : Option Addr) (c3 : Nat), Try.prog.built 26 [(0, .int .i64 2), (2, .slice a3 (enc x).length c3)] = some (rcs ⟨2, z32, enc x⟩ (.slice a3 (enc x).length c3)).toArray) := fun a3 c3 => by kernel_rfl
    have HBB : Hid (Below w.heap.size w ((w.alloc (.cells #[.bool true, .slice a1 n1 k1, .slice a2 n2 k2] 62)).alloc (.cells (rcs rz (.slice none 0 0)).toArray 26))) := BB true
    clear BB
    go_wp2_with (first
      | (go_at_call 26; refine K.mono ?_; rintro e w3 ⟨v, rfl, hs, hb⟩; have own := own_of_str hs; have HY : Hid (∀ y ∈ enc x, y < 256) := hs.ok.2; obtain ⟨a3, c3, rfl⟩ := own_slice own; have g3 := (hb.block (w.heap.size + 1) (by simp)).trans g0; have HZ : Hid (Below w.heap.size w w3 ∧ w3.ownsRow ((w.alloc (.cells #[.bool true, .slice a1 n1 k1, .slice a2 n2 k2] 62)).alloc (.cells (rcs rz (.slice none 0 0)).toArray 26)).heap.size 5 1 (.slice a3 (enc x).length c3) (enc x).length (bv (enc x))) := ⟨ch HBB.out hb, own⟩; have bd := HBD.out a3 c3; clear hs own hb g0 K)
      | refine wpList_bdL (by kernel_rfl) _ _ (by rfl) _ bd ?_
      | refine wpList_st26b (by kernel_rfl) _ _ (by rfl) _ ⟨2, z32, enc x⟩ rz (.slice a3 (enc x).length c3) (.slice none 0 0) z32_len z32_len (by rfl) g3 (by rfl) (by rfl) ?_)
    have hr3 := setRow_heap w3 (w.heap.size + 1) _ (rcs ⟨2, z32, enc x⟩ (.slice a3 (enc x).length c3)).toArray _ _ g3
    refine bodyPost_ret (res2a rfl _ _ (w.heap.size + 1) _ _ _ z32_len (rng_row hr3) rfl rfl) rfl ?_
    refine ⟨.slice a3 (enc x).length c3, by rw [HR.out]; rfl, ?_, below_setRow HZ.out.1 (by omega) _, by rw [HR.out]; exact HY.out⟩
    rw [HR.out]
    exact own_setRow HZ.out.2 (by simp) (by simp; omega) _
  | false =>
    have HBB : Hid (Below w.heap.size w ((w.alloc (.cells #[.bool false, .slice a1 n1 k1, .slice a2 n2 k2] 62)).alloc (.cells (rcs rz (.slice none 0 0)).toArray 26))) := BB false
    have g0 := hg false
    obtain ⟨n, en⟩ : ∃ n, n = x.b.length := ⟨_, rfl⟩
    have HV : ∃ bk off, n1 = n ∧ Vw ((w.alloc (.cells #[.bool false, .slice a1 n1 k1, .slice a2 n2 k2] 62)).alloc (.cells (rcs rz (.slice none 0 0)).toArray 26)) a1 bk off x.b := by
      have hk := h.keep (BB false)
      rw [It.eta x] at hk
      obtain ⟨a', c', a, c, blk, off, e1, e2, hR, -⟩ := hk.opened
      obtain ⟨a'', b'', off'', c'', e3, hv, -⟩ := hR
      injection e1 with e1a e1b e1c
      injection e3 with e3a e3b e3c
      subst e3a
      exact ⟨b'', off'', by rw [e1b, en], hv⟩
    obtain ⟨bk, off, rfl, hv⟩ := HV
    have HR0 : Hid (itR x = if n1 = 0 then some rz else if n1 = 32 then some ⟨1, x.b, []⟩ else none) := by
      show itR x = _
      unfold itR
      rw [← HEL.out, if_neg (by simp), en]
    have hln := hv.len
    rw [← en] at hln
    have HN : Hid (n1 = x.b.length) := en
    have hxb := (vw_ok hv).2
    clear h hg BB en
    by_cases h0 : n1 = 0
    · subst h0
      have HR : Hid (itR x = some rz) := by show itR x = _; rw [HR0.out, if_pos rfl]
      clear hv
      go_enter Try.func77, Try.ntmps77
      go_wp2_with (first
        | refine wpList_bd26 (by kernel_rfl) (by rfl) ?_
        | refine wpList_st26b (by kernel_rfl) _ _ (by rfl) _ rz rz (.slice none 0 0) (.slice none 0 0) z32_len z32_len (by rfl) g0 (by rfl) (by rfl) ?_)
      have hr3 := setRow_heap ((w.alloc (.cells #[.bool false, .slice a1 0 k1, .slice a2 n2 k2] 62)).alloc (.cells (rcs rz (.slice none 0 0)).toArray 26)) (w.heap.size + 1) _ (rcs rz (.slice none 0 0)).toArray _ _ g0
      refine bodyPost_ret (res2a rfl _ _ (w.heap.size + 1) _ _ _ z32_len (rng_row hr3) rfl rfl) rfl ?_
      refine ⟨.slice none 0 0, by rw [HR.out]; rfl, ?_, below_setRow HBB.out (by omega) _, by rw [HR.out]; exact fun y hy => by cases hy⟩
      rw [HR.out]
      exact ⟨rfl, Or.inl ⟨rfl, rfl⟩⟩
    · have j0 : ((n1 : Int) == 0) = false := by simp; omega
      have j0b : ¬ (n1 : Int) = 0 := by omega
      by_cases h32 : n1 = 32
      · subst h32
        obtain ⟨rfl, rg⟩ := vb_range hv HN.out.symm (by omega)
        have HR : Hid (itR x = some ⟨1, x.b, []⟩) := by show itR x = _; rw [HR0.out, if_neg (by omega), if_pos rfl]
        have hs := HN.out.symm
        have bd := built26_hash x.b hs
        have HS : Hid (x.b.length = 32) := hs
        clear hv hs
        go_enter Try.func77, Try.ntmps77
        go_wp2_with (first
          | refine wpList_ld24 (by kernel_rfl) _ (by rfl) _ _ _ HS.out rg (by rfl) ?_
          | refine wpList_bdL (by kernel_rfl) _ _ (by rfl) _ bd ?_
          | refine wpList_st26b (by kernel_rfl) _ _ (by rfl) _ ⟨1, x.b, []⟩ rz (.slice none 0 0) (.slice none 0 0) HS.out z32_len (by rfl) g0 (by rfl) (by rfl) ?_)
        have hr3 := setRow_heap ((w.alloc (.cells #[.bool false, .slice (some ⟨bk, off, none⟩) 32 k1, .slice a2 n2 k2] 62)).alloc (.cells (rcs rz (.slice none 0 0)).toArray 26)) (w.heap.size + 1) _ (rcs ⟨1, x.b, []⟩ (.slice none 0 0)).toArray _ _ g0
        refine bodyPost_ret (res2a rfl _ _ (w.heap.size + 1) _ _ _ HS.out (rng_row hr3) rfl rfl) rfl ?_
        refine ⟨.slice none 0 0, by rw [HR.out]; rfl, ?_, below_setRow HBB.out (by omega) _, by rw [HR.out]; exact fun y hy => by cases hy⟩
        rw [HR.out]
        exact ⟨rfl, Or.inl ⟨rfl, rfl⟩⟩
      · have j32 : ((n1 : Int) == 32) = false := by simp; omega
        have j32b : ¬ (n1 : Int) = 32 := by omega
        have HR : Hid (itR x = none) := by show itR x = _; rw [HR0.out, if_neg h0, if_neg h32]
        clear hv
        go_enter Try.func77, Try.ntmps77
        go_wp2_with (first
          | refine wpList_bd26 (by kernel_rfl) (by rfl) ?_
          | refine wpList_st26b (by kernel_rfl) _ _ (by rfl) _ rz rz (.slice none 0 0) (.slice none 0 0) z32_len z32_len (by rfl) g0 (by rfl) (by rfl) ?_)
        have hr3 := setRow_heap ((w.alloc (.cells #[.bool false, .slice a1 n1 k1, .slice a2 n2 k2] 62)).alloc (.cells (rcs rz (.slice none 0 0)).toArray 26)) (w.heap.size + 1) _ (rcs rz (.slice none 0 0)).toArray _ _ g0
        refine bodyPost_ret (res2a rfl _ _ (w.heap.size + 1) _ _ _ z32_len (rng_row hr3) rfl rfl) rfl ?_
        refine ⟨.slice none 0 0, by rw [HR.out]; rfl, ?_, below_setRow HBB.out (by omega) _, by rw [HR.out]; exact fun y hy => by cases hy⟩
        rw [HR.out]
        exact ⟨rfl, Or.inl ⟨rfl, rfl⟩⟩
end Go.Proofs.Ytadcbhjmbgenbaa

/-
  Operations of a region that draws its order, each by a law of its own: nodes.
-/
namespace Go.Proofs.Ytadcbhjmbgenbaa
open Go.RowKit

section
variable {ops : Array Oper} {S : World → Prop} {o : Oper} {a : Act}
theorem y_f62 (hw : Region.wanted o (yielded ops a.tmps) = true) (x : Operand) (f : Nat) (ho : o.op = .fieldAddr 62 x f) (g p : Nat) (hx : a.eval x = .pointer (some ⟨g, p, none⟩)) (hf : f < 3) : YieldsIf Try.prog ops S o (.pointer (some ⟨g, p + f, none⟩)) a :=
  .inl ⟨hw, fun w _ => by
    unfold execOp
    simp only [ho, hx]
    rcases (by omega : f = 0 ∨ f = 1 ∨ f = 2) with rfl | rfl | rfl
    · go_simp
    · go_simp
    · go_simp⟩
theorem y_load4 (hw : Region.wanted o (yielded ops a.tmps) = true) (x : Operand) (ho : o.op = .load 4 x) (g p : Nat) (hx : a.eval x = .pointer (some ⟨g, p, none⟩)) (v : Value) (hS : ∀ w, S w → w.cell? ⟨g, p, none⟩ = some v) : YieldsIf Try.prog ops S o v a :=
  .inl ⟨hw, fun w hs => by
    have c := hS w hs
    unfold execOp
    simp only [ho, hx]
    go_simp⟩
theorem y_load3 (hw : Region.wanted o (yielded ops a.tmps) = true) (x : Operand) (ho : o.op = .load 3 x) (g p : Nat) (hx : a.eval x = .pointer (some ⟨g, p, none⟩)) (v : Value) (hS : ∀ w, S w → w.cell? ⟨g, p, none⟩ = some v) : YieldsIf Try.prog ops S o v a :=
  .inl ⟨hw, fun w hs => by
    have c := hS w hs
    unfold execOp
    simp only [ho, hx]
    go_simp⟩
theorem y_load60 (hw : Region.wanted o (yielded ops a.tmps) = true) (x : Operand) (ho : o.op = .load 60 x) (g p : Nat) (hx : a.eval x = .pointer (some ⟨g, p, none⟩)) (v : Value) (hS : ∀ w, S w → w.cell? ⟨g, p, none⟩ = some v) : YieldsIf Try.prog ops S o v a :=
  .inl ⟨hw, fun w hs => by
    have c := hS w hs
    unfold execOp
    simp only [ho, hx]
    go_simp⟩
theorem y_i60 (hw : Region.wanted o (yielded ops a.tmps) = true) (x i : Operand) (ho : o.op = .indexAddr 60 x i) (g p n c j : Nat) (hx : a.eval x = .slice (some ⟨g, p, none⟩) n c) (hi : a.eval i = .int .i64 j) (hj : j < n) : YieldsIf Try.prog ops S o (.pointer (some ⟨g, p + j * 3, none⟩)) a :=
  .inl ⟨hw, fun w _ => by
    have q : (j : Int) < (n : Int) := by omega
    unfold execOp
    simp only [ho, hx, hi]
    go_simp⟩
theorem y_i27 (hw : Region.wanted o (yielded ops a.tmps) = true) (x i : Operand) (ho : o.op = .indexAddr 27 x i) (g p j : Nat) (hx : a.eval x = .pointer (some ⟨g, p, none⟩)) (hi : a.eval i = .int .i64 j) (hj : j < 16) : YieldsIf Try.prog ops S o (.pointer (some ⟨g, p + j * 34, none⟩)) a :=
  .inl ⟨hw, fun w _ => by
    have q : (j : Int) < 16 := by omega
    unfold execOp
    simp only [ho, hx, hi]
    go_simp⟩
theorem y_f29k (hw : Region.wanted o (yielded ops a.tmps) = true) (x : Operand) (ho : o.op = .fieldAddr 29 x 5) (g : Nat) (hx : a.eval x = .pointer (some ⟨g, 0, none⟩)) : YieldsIf Try.prog ops S o (.pointer (some ⟨g, 38, none⟩)) a :=
  .inl ⟨hw, fun w _ => by
    unfold execOp
    simp only [ho, hx]
    go_simp⟩
theorem y_f29f (hw : Region.wanted o (yielded ops a.tmps) = true) (x : Operand) (f : Nat) (ho : o.op = .fieldAddr 29 x f) (g : Nat) (hx : a.eval x = .pointer (some ⟨g, 0, none⟩)) (hf : f < 5) : YieldsIf Try.prog ops S o (.pointer (some ⟨g, f, none⟩)) a :=
  .inl ⟨hw, fun w _ => by
    unfold execOp
    simp only [ho, hx]
    rcases (by omega : f = 0 ∨ f = 1 ∨ f = 2 ∨ f = 3 ∨ f = 4) with rfl | rfl | rfl | rfl | rfl
    · go_simp
    · go_simp
    · go_simp
    · go_simp
    · go_simp⟩
theorem y_f26a (hw : Region.wanted o (yielded ops a.tmps) = true) (x : Operand) (f : Nat) (ho : o.op = .fieldAddr 26 x f) (g p : Nat) (hx : a.eval x = .pointer (some ⟨g, p, none⟩)) (hf : f < 2) : YieldsIf Try.prog ops S o (.pointer (some ⟨g, p + f, none⟩)) a :=
  .inl ⟨hw, fun w _ => by
    unfold execOp
    simp only [ho, hx]
    rcases (by omega : f = 0 ∨ f = 1) with rfl | rfl
    · go_simp
    · go_simp⟩
theorem y_f26b (hw : Region.wanted o (yielded ops a.tmps) = true) (x : Operand) (ho : o.op = .fieldAddr 26 x 2) (g p : Nat) (hx : a.eval x = .pointer (some ⟨g, p, none⟩)) : YieldsIf Try.prog ops S o (.pointer (some ⟨g, p + 33, none⟩)) a :=
  .inl ⟨hw, fun w _ => by
    unfold execOp
    simp only [ho, hx]
    go_simp⟩
theorem y_ld62 (hw : Region.wanted o (yielded ops a.tmps) = true) (x : Operand) (ho : o.op = .load 62 x) (g p : Nat) (hx : a.eval x = .pointer (some ⟨g, p, none⟩)) (u v z : Value) (hS : ∀ w, S w → w.cell? ⟨g, p, none⟩ = some u ∧ w.cell? ⟨g, p + 1, none⟩ = some v ∧ w.cell? ⟨g, p + 2, none⟩ = some z) : YieldsIf Try.prog ops S o (.agg #[u, v, z]) a :=
  yieldsIf_load_mid hw _ _ ho g p hx [u, v, z] _ (fun w hs => range3 (hS w hs).1 (hS w hs).2.1 (hS w hs).2.2) Try.underlying62 rfl info25s
theorem y_ld26 (hw : Region.wanted o (yielded ops a.tmps) = true) (x : Operand) (ho : o.op = .load 26 x) (g p : Nat) (hx : a.eval x = .pointer (some ⟨g, p, none⟩)) (r : Rf) (v : Value) (hr : r.h.length = 32) (hS : ∀ w, S w → w.rangeAt g p (rcs r v)) : YieldsIf Try.prog ops S o (.agg (rcs r v).toArray) a :=
  yieldsIf_load_mid hw _ _ ho g p hx (rcs r v) _ hS Try.underlying26 rfl (info_rcs hr v)
theorem y_ld24 (hw : Region.wanted o (yielded ops a.tmps) = true) (x : Operand) (ho : o.op = .load 24 x) (g p : Nat) (hx : a.eval x = .pointer (some ⟨g, p, none⟩)) (s : List Nat) (hr : s.length = 32) (hS : ∀ w, S w → w.rangeAt g p (bv s)) : YieldsIf Try.prog ops S o (.agg (bv s).toArray) a :=
  yieldsIf_load_mid hw _ _ ho g p hx (bv s) _ hS Try.underlying24 rfl (info_bv hr)
theorem y_ld29 (hw : Region.wanted o (yielded ops a.tmps) = true) (x : Operand) (ho : o.op = .load 29 x) (g : Nat) (hx : a.eval x = .pointer (some ⟨g, 0, none⟩)) (n : Nd) (u : Nv) (hr : n.W) (hS : ∀ w, S w → w.rangeAt g 0 (nc n u)) : YieldsIf Try.prog ops S o (.agg (nc n u).toArray) a :=
  yieldsIf_load_mid hw _ _ ho g 0 hx (nc n u) _ hS Try.underlying29 rfl (info_nc hr u)
theorem y_bd (hw : Region.wanted o (yielded ops a.tmps) = true) (t : TypeId) (L : List (Nat × Operand)) (ho : o.op = .build t L.toArray) (cells : Array Value)
    (hb : Try.prog.built t (L.map fun (i, x) => (i, a.eval x)) = some cells) : YieldsIf Try.prog ops S o (.agg cells) a :=
  .inl ⟨hw, fun w _ => by
    have hb' : Try.prog.built t (L.toArray.map fun (i, x) => (i, a.eval x)).toList = some cells := by simp only [List.map_toArray]; exact hb
    unfold execOp
    simp only [ho, Sem.run_bind, run_build w t _ cells hb', Result.andThen_ok]
    rfl⟩
theorem y_not (hw : Region.wanted o (yielded ops a.tmps) = true) (x : Operand) (ho : o.op = .unOp .not 4 x) (b : Bool) (hx : a.eval x = .bool b) : YieldsIf Try.prog ops S o (.bool (!b)) a :=
  .inl ⟨hw, fun w _ => by
    unfold execOp
    simp only [ho, hx]
    go_simp⟩
theorem y_ext (hw : Region.wanted o (yielded ops a.tmps) = true) (x : Operand) (i : Nat) (ho : o.op = .extract x i) (vs : Array Value) (v : Value) (hx : a.eval x = .tuple vs) (hv : vs[i]? = some v) : YieldsIf Try.prog ops S o v a :=
  .inl ⟨hw, fun w _ => by
    unfold execOp
    simp only [ho, hx, Instr.extract, hv]
    rfl⟩
theorem r_st29b {Q : Exit → Act → World → Prop} {w : World} {K : Act → World → Prop} {E : Prop} (hw : Region.wanted o (yielded ops a.tmps) = true) (x y : Operand) (ho : o.op = .store 29 x y) (b : Nat) (n m : Nd) (u t : Nv) (hn : n.W) (hm : m.W) (h1 : (nc n u).toArray.all (·.oneCell') = true) (hb : w.heap[b]? = some (.cells (nc m t).toArray 29 (0, 0)))
    (hx : a.eval x = .pointer (some ⟨b, 0, none⟩)) (hy : a.eval y = .agg (nc n u).toArray) (h : K (a.put o.dst undef) (w.setRow b (nc n u).toArray)) :
    if Region.wanted o (yielded ops a.tmps) = true then Oper.wp Try.prog o a w K Q else E := by
  rw [if_pos hw]
  exact wp_store_row 29 x y ho b (nc n u).toArray hx hy 29 (nc m t).toArray hb (by rw [List.size_toArray]; exact info_nc hn u) (by rw [List.size_toArray, List.size_toArray, nc_len hn, nc_len hm]) h1 h
end
end Go.Proofs.Ytadcbhjmbgenbaa
