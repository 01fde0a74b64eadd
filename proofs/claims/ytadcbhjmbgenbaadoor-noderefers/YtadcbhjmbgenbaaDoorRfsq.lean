import Derived.Test.YtadcbhjmbgenbaaDoorNoq
import Derived.Test.YtadcbhjmbgenbaaDoorRHcq
import Derived.Test.YtadcbhjmbgenbaaDoorSlq
import Derived.Deep.MidRow
import Derived.Deep.WholeRow
import Derived.DeepKeys
/-
  Refs in memory, beside a book.
-/
namespace Go.Proofs.YtadcbhjmbgenbaaDoor
open Go.RowKit Go.Sort Go.Maps Go.MuLone

/-! ### bytes -/
def Vf (P : Nat → Prop) (w : World) (v : Value) (s : List Nat) : Prop := ∃ a b off c, v = .slice a s.length c ∧ Vw w a b off s ∧ s.length ≤ c ∧ (a = none → c = 0) ∧ s.length ≤ 140737488351232 ∧ (0 < s.length → P b)
theorem Vf.same {P : Nat → Prop} {w w' : World} {v : Value} {s : List Nat} (h : Vf P w v s) (k : ∀ i, P i → i < w.heap.size → w'.heap[i]? = w.heap[i]?) : Vf P w' v s := by
  obtain ⟨a, b, off, c, h1, h2, h3, h4, h5, h6⟩ := h
  exact ⟨a, b, off, c, h1, ⟨h2.at_, fun i hi => (World.cell?_of_block (w := w) (k b (h6 (by omega)) (h2.lt (by omega)))).trans (h2.cell i hi), h2.bd, h2.len⟩, h3, h4, h5, h6⟩
theorem Vf.mono {P Q : Nat → Prop} {w : World} {v : Value} {s : List Nat} (h : Vf P w v s) (k : ∀ i, P i → i < w.heap.size → Q i) : Vf Q w v s := by
  obtain ⟨a, b, off, c, h1, h2, h3, h4, h5, h6⟩ := h
  exact ⟨a, b, off, c, h1, h2, h3, h4, h5, fun h0 => k b (h6 h0) (h2.lt h0)⟩
theorem Vf.below {P : Nat → Prop} {w w' : World} {v : Value} {s : List Nat} (h : Vf P w v s) (k : Below w.heap.size w w') : Vf P w' v s := h.same (fun i _ hi => k.block i hi)
theorem vf_nil (P : Nat → Prop) (w : World) : Vf P w (.slice none 0 0) [] := ⟨none, 0, 0, 0, rfl, ⟨fun h => by simp at h, fun i hi => by simp at hi, fun i hi => by simp at hi, by simp⟩, by simp, fun _ => rfl, by simp, fun h => by simp at h⟩
theorem vf_of_own {P : Nat → Prop} {w : World} {B : Nat} {v : Value} {s : List Nat} (h : w.ownsRow B 5 1 v s.length (bv s)) (ok : ∀ x ∈ s, x < 256) (hl : s.length ≤ 140737488351232) (hP : ∀ q, v.ownBlock = some q → P q) : Vf P w v s := by
  have hs : Str w (fun i => P i) v s := ⟨by
    rcases h with ⟨h0, h | ⟨g, cap, cur, e, hb, hr⟩⟩
    · exact ⟨h0, Or.inl h⟩
    · exact ⟨h0, Or.inr ⟨g, cap, cur, e, Nat.zero_le _, hr⟩⟩, hP, ⟨by omega, ok⟩⟩
  obtain ⟨a, g, c, e, hc, hv, hp⟩ := hs.view
  refine ⟨a, g, 0, c, e, hv, hc, fun q => ?_, hl, fun h0 => (hp h0).1⟩
  subst q
  rcases h.2 with ⟨e2, -⟩ | ⟨g', cap', cur', e2, -⟩
  · rw [e] at e2
    injection e2
  · rw [e] at e2
    injection e2 with q1
    cases q1
def sB (s : List Nat) : ByteArray := str s.length (fun i => ((gd s i : Nat) : Int))
theorem conv_vf {P : Nat → Prop} {w : World} {v : Value} {s : List Nat} (h : Vf P w v s) : (convert 22 9 v).run Tryd.prog w = .ok (.string (sB s)) w := by
  obtain ⟨a, b, off, c, rfl, hv, -⟩ := h
  exact convert_view hv c

/-! ### ranges -/
theorem rng_left {w : World} {b o : Nat} {xs ys : List Value} (h : w.rangeAt b o (xs ++ ys)) : w.rangeAt b o xs := fun j v hv => h j v (by rw [List.getElem?_append_left (List.getElem?_eq_some_iff.1 hv).1]; exact hv)
theorem rng_right {w : World} {b o : Nat} {xs ys : List Value} (h : w.rangeAt b o (xs ++ ys)) : w.rangeAt b (o + xs.length) ys := fun j v hv => by
  have := h (xs.length + j) v (by rw [List.getElem?_append_right (by omega), Nat.add_sub_cancel_left]; exact hv)
  rw [← Nat.add_assoc] at this
  exact this
theorem rng_head {w : World} {b o : Nat} {x : Value} {xs : List Value} (h : w.rangeAt b o (x :: xs)) : w.cell? ⟨b, o, none⟩ = some x ∧ w.rangeAt b (o + 1) xs :=
  ⟨h 0 x rfl, fun j v hv => by
    have := h (j + 1) v (by simpa using hv)
    rw [show o + (j + 1) = o + 1 + j by omega] at this
    exact this⟩
theorem rng_same {w w' : World} {b o : Nat} {cs : List Value} (h : w.rangeAt b o cs) (k : w'.heap[b]? = w.heap[b]?) : w'.rangeAt b o cs := fun j v hv => (World.cell?_of_block (w := w) k).trans (h j v hv)
theorem rng_row {w : World} {b : Nat} {cs : List Value} {t : TypeId} {fr : Nat × Nat} (h : w.heap[b]? = some (.cells cs.toArray t fr)) : w.rangeAt b 0 cs := fun j v hv => by
  rw [cell_of_row _ _ _ _ _ _ h, Nat.zero_add]
  simpa using hv

/-! ### a ref -/
def z32 : List Nat := List.replicate 32 0
theorem z32_isH : IsH z32 := ⟨by simp [z32], by decide⟩
theorem z32_arr : (bv z32).toArray = Z32 := by kernel_rfl
structure Rf where
  k : Int
  h : List Nat
  b : List Nat
def rz : Rf := ⟨0, z32, []⟩
def rcs (r : Rf) (v : Value) : List Value := .int .i64 r.k :: (bv r.h ++ [v])
theorem rcs_len {r : Rf} (h : IsH r.h) (v : Value) : (rcs r v).length = 34 := by simp [rcs, bv_len, h.1]
theorem bv_one (s : List Nat) : ∀ v ∈ bv s, v.oneCell' = true := fun v hv => by
  obtain ⟨x, -, rfl⟩ := List.mem_map.1 hv
  rfl
theorem rcs_one {r : Rf} {v : Value} (h : v.oneCell' = true) : (rcs r v).toArray.all (·.oneCell') = true := by
  refine all_oneCell_toArray (fun x hx => ?_)
  rcases List.mem_cons.1 hx with rfl | hx
  · rfl
  · rcases List.mem_append.1 hx with hx | hx
    · exact bv_one _ _ hx
    · rw [List.mem_singleton.1 hx]; exact h
theorem rng_ref {w : World} {b o : Nat} {r : Rf} {v : Value} (hh : IsH r.h) (h : w.rangeAt b o (rcs r v)) : w.cell? ⟨b, o, none⟩ = some (.int .i64 r.k) ∧ w.rangeAt b (o + 1) (bv r.h) ∧ w.cell? ⟨b, o + 33, none⟩ = some v := by
  obtain ⟨h1, h2⟩ := rng_head h
  refine ⟨h1, rng_left h2, ?_⟩
  have h3 := rng_right h2
  rw [bv_len, hh.1] at h3
  have := h3 0 v rfl
  rw [show o + 1 + 32 + 0 = o + 33 by omega] at this
  exact this
theorem infoR : (Tryd.prog.info? 33).map (·.size) = some 34 := by kernel_rfl
theorem info_rcs {r : Rf} (h : IsH r.h) (v : Value) : (Tryd.prog.info? 33).map (·.size) = some (rcs r v).length := by rw [rcs_len h]; exact infoR
theorem info_bv {s : List Nat} (h : IsH s) : (Tryd.prog.info? 31).map (·.size) = some (bv s).length := by rw [bv_len, h.1]; exact info26
theorem zeroR : (Tryd.prog.info? 33).map (fun i => (i.zero, i.size)) = some (some (.agg (rcs rz (.slice none 0 0)).toArray), 34) := by kernel_rfl
theorem zvR (w : World) : (zeroValue 33).run Tryd.prog w = .ok (.agg (rcs rz (.slice none 0 0)).toArray) w := (zero_of_info zeroR).1 w
theorem eq_h2 (w : World) (k : List Nat) (hk : IsH k) : (Op.equalIn 10000 31 (.agg (bv k).toArray) (.agg (bv k).toArray)).run Tryd.prog w = .ok true w :=
  eq_hash w (hA k) (gd k) (hA_size hk) (hA_cell hk) (gd_lt hk.2)
section
variable {ops : Array Oper} {rest : List Oper} {op : Oper} {a : Act} {w : World} {Q : Exit → Act → World → Prop}
theorem wpList_g {P : Program} (hw : Region.wanted op (yielded ops a.tmps) = true) (h : op.wp P a w (wpList P ops Q rest) Q) : wpList P ops Q (op :: rest) a w := by
  unfold wpList
  rw [if_pos hw]
  exact Or.inl h
theorem wpList_ldH (hw : Region.wanted op (yielded ops a.tmps) = true) (x : Operand) (ho : op.op = .load 31 x) (b o : Nat) (s : List Nat) (hs : IsH s) (hb : w.rangeAt b o (bv s)) (hx : a.eval x = .pointer (some ⟨b, o, none⟩))
    (h : wpList Tryd.prog ops Q rest (a.put op.dst (.agg (bv s).toArray)) w) : wpList Tryd.prog ops Q (op :: rest) a w :=
  wpList_g hw (wp_load_mid 31 x ho b o hx _ _ hb Tryd.underlying31 rfl (info_bv hs) h)
theorem wpList_ldR (hw : Region.wanted op (yielded ops a.tmps) = true) (x : Operand) (ho : op.op = .load 33 x) (b : Nat) (r : Rf) (v : Value) (hs : IsH r.h) (hb : w.rangeAt b 0 (rcs r v)) (hx : a.eval x = .pointer (some ⟨b, 0, none⟩))
    (h : wpList Tryd.prog ops Q rest (a.put op.dst (.agg (rcs r v).toArray)) w) : wpList Tryd.prog ops Q (op :: rest) a w :=
  wpList_g hw (wp_load_mid 33 x ho b 0 hx _ _ hb Tryd.underlying33 rfl (info_rcs hs v) h)
theorem wpList_stR (hw : Region.wanted op (yielded ops a.tmps) = true) (x y : Operand) (ho : op.op = .store 33 x y) (b : Nat) (r q : Rf) (v t : Value) (hr : IsH r.h) (hq : IsH q.h) (h1 : v.oneCell' = true) (hb : w.heap[b]? = some (.cells (rcs q t).toArray 33 (0, 0)))
    (hx : a.eval x = .pointer (some ⟨b, 0, none⟩)) (hy : a.eval y = .agg (rcs r v).toArray) (h : wpList Tryd.prog ops Q rest (a.put op.dst undef) (w.setRow b (rcs r v).toArray)) : wpList Tryd.prog ops Q (op :: rest) a w :=
  wpList_g hw (wp_store_row 33 x y ho b (rcs r v).toArray hx hy 33 (rcs q t).toArray hb (by rw [List.size_toArray]; exact info_rcs hr v) (by rw [List.size_toArray, List.size_toArray, rcs_len hr, rcs_len hq]) (rcs_one h1) h)
theorem wpList_bd (hw : Region.wanted op (yielded ops a.tmps) = true) (t : TypeId) (parts : Array (Nat × Operand)) (ho : op.op = .build t parts) (cells : Array Value)
    (hb : Tryd.prog.built t (parts.map fun (i, x) => (i, a.eval x)).toList = some cells) (h : wpList Tryd.prog ops Q rest (a.put op.dst (.agg cells)) w) : wpList Tryd.prog ops Q (op :: rest) a w := by
  refine wpList_g hw ?_
  unfold Oper.wp execOp
  simp only [ho, Sem.run_bind, run_build w t _ cells hb, Result.andThen_ok]
  exact h
theorem wpList_bdL (hw : Region.wanted op (yielded ops a.tmps) = true) (t : TypeId) (L : List (Nat × Operand)) (ho : op.op = .build t L.toArray) (cells : Array Value)
    (hb : Tryd.prog.built t (L.map fun (i, x) => (i, a.eval x)) = some cells) (h : wpList Tryd.prog ops Q rest (a.put op.dst (.agg cells)) w) : wpList Tryd.prog ops Q (op :: rest) a w :=
  wpList_bd hw t _ ho cells (by simp only [List.map_toArray]; exact hb) h
end
theorem builtR0 : Tryd.prog.built 33 [] = some (rcs rz (.slice none 0 0)).toArray := by kernel_rfl
theorem builtR2 (a : Option Addr) (n c : Nat) (s : List Nat) : Tryd.prog.built 33 [(0, .int .i64 2), (2, .slice a n c)] = some (rcs ⟨2, z32, s⟩ (.slice a n c)).toArray := by kernel_rfl
theorem resR {fn : Func} {p : Tmp} (h : fn.results = #[.cell p 33]) (tmps : Array Value) (w : World) (g : Nat) (r : Rf) (v : Value) (hr : IsH r.h) (hg : w.rangeAt g 0 (rcs r v)) (hp : tmps.getD p undef = .pointer (some ⟨g, 0, none⟩)) :
    (results fn tmps).run Tryd.prog w = .ok (.agg (rcs r v).toArray) w := by
  have hp' : tmps[p]?.getD undef = .pointer (some ⟨g, 0, none⟩) := by simpa using hp
  have hl := run_loadVar_mid (P := Tryd.prog) w g 0 33 _ _ hg Tryd.underlying33 rfl (info_rcs hr v)
  simp [results, h, hp', asAddr, hl]
set_option maxRecDepth 100000 in
set_option maxHeartbeats 1600000 in
/-- two refs that are the same -/
theorem sameRef_yes {P Q : Nat → Prop} {w : World} {r : Rf} {v t : Value} (hr : IsH r.h) (hv : Vf P w v r.b) (ht : Vf Q w t r.b) : Calls Tryd.prog 11 #[.agg (rcs r v).toArray, .agg (rcs r t).toArray] w fun e w' => e = .returned (.bool true) ∧ Below w.heap.size w w' := by
  have B1 : Below w.heap.size w (w.alloc (.cells (rcs r v).toArray 33)) := (Below.refl _ _).alloc (Nat.le_refl _) _
  have B : Below w.heap.size w ((w.alloc (.cells (rcs r v).toArray 33)).alloc (.cells (rcs r t).toArray 33)) := B1.alloc (by simp) _
  have rg : ((w.alloc (.cells (rcs r v).toArray 33)).alloc (.cells (rcs r t).toArray 33)).rangeAt w.heap.size 0 (rcs r v) := rng_row (t := 33) (fr := (0, 0)) ((heap_alloc_old _ _ (by simp)).trans (heap_alloc_new _ _))
  have rh : ((w.alloc (.cells (rcs r v).toArray 33)).alloc (.cells (rcs r t).toArray 33)).rangeAt (w.heap.size + 1) 0 (rcs r t) := by
    have := heap_alloc_new (w.alloc (.cells (rcs r v).toArray 33)) (.cells (rcs r t).toArray 33)
    rw [World.size_alloc] at this
    exact rng_row this
  obtain ⟨c0, c1, c2⟩ := rng_ref hr rg
  obtain ⟨d0, d1, d2⟩ := rng_ref hr rh
  rw [Nat.zero_add] at c1 c2 d1 d2
  have heq := fun w0 => eq_h2 w0 r.h hr
  have cv := conv_vf (hv.below B)
  have ct := conv_vf (ht.below B)
  have HB : Hid (Below w.heap.size w ((w.alloc (.cells (rcs r v).toArray 33)).alloc (.cells (rcs r t).toArray 33))) := B
  obtain ⟨S, eS⟩ : ∃ S, S = sB r.b := ⟨_, rfl⟩
  rw [← eS] at cv ct
  clear B B1 eS hv ht
  go_enter Tryd.func11, Tryd.ntmps11
  go_wp2_with (first
    | refine wpList_ldH (by kernel_rfl) _ (by rfl) _ _ _ hr c1 (by rfl) ?_
    | refine wpList_ldH (by kernel_rfl) _ (by rfl) _ _ _ hr d1 (by rfl) ?_)
  go_ret
  exact ⟨rfl, HB.out⟩
end Go.Proofs.YtadcbhjmbgenbaaDoor
