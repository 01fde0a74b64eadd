import Derived.Test.YtadcbhjmbgenbaaFie
import Derived.Test.YtadcbhjmbgenbaaGue
import Derived.Test.YtadcbhjmbgenbaaRoe
import Derived.Test.YtadcbhjmbgenbaaYre
/-
  cairnref07: content.
-/
namespace Go.Proofs.Ytadcbhjmbgenbaa
open Go.RowKit

theorem ptF_le (s : List Nat) : (ptF s).a ≤ (ptF s).e := by
  unfold ptF ptZ
  split
  · exact Nat.le_refl _
  · split
    · exact Nat.zero_le _
    · split
      · exact Nat.le_add_right _ _
      · split
        · exact Nat.le_refl _
        · exact Nat.le_add_right _ _
/-- a piece of bytes -/
theorem vb_cut {w : World} {a : Option Addr} {b off c l z : Nat} {s : List Nat} (hv : Vw w a b off s) (hc : s.length ≤ c) (hn : a = none → c = 0) (hl : s.length ≤ 140737488351232) (h1 : l ≤ z) (h2 : z ≤ s.length) :
    Vw w (behind a c l) b (off + l) (cut s l z) ∧ (behind a c l = none → c - l = 0) := by
  have e : (cut s l z).length = z - l := cut_len h2
  refine ⟨⟨fun q => ?_, fun i hi => ?_, fun i hi => ?_, by rw [e]; omega⟩, fun q => ?_⟩
  · rw [e] at q
    have := hv.at_ (by omega)
    subst this
    unfold behind
    rw [if_neg (by omega)]
    simp [Go.WideShapes.add_plain]
  · rw [e] at hi
    have := hv.cell (l + i) (by omega)
    rw [cut_gd (by omega), Nat.add_assoc]
    exact this
  · rw [e] at hi
    have := hv.bd (l + i) (by omega)
    rw [cut_gd (by omega)]
    exact this
  · cases a with
    | none => have := hn rfl; omega
    | some p =>
      unfold behind at q
      split at q
      · omega
      · simp at q
set_option maxRecDepth 100000 in
set_option maxHeartbeats 1600000 in
theorem rcontent_any {w : World} {v : Value} {s : List Nat} (h : Vb w v s) (he : (ptF s).e ≤ s.length) :
    Calls Try.prog 58 #[v] w fun e w' => ∃ u, e = .returned (.tuple #[u, .bool ((ptF s).ok && !(ptF s).l)]) ∧ w'.ownsRow w.heap.size 5 1 u (cut s (ptF s).a (ptF s).e).length (bv (cut s (ptF s).a (ptF s).e)) ∧ Below w.heap.size w w' := by
  have K := rpart_any h
  have hae := ptF_le s
  unfold Pt.v at K
  generalize ptF s = P at *
  obtain ⟨l, A, E, ok⟩ := P
  simp only at K hae he ⊢
  obtain ⟨a, b2, off, c, rfl, hv, hc, hnil, hsl⟩ := h
  have sb := slice_both a s.length c A E hae (by omega)
  obtain ⟨hcv, hcn⟩ := vb_cut hv hc hnil hsl hae he
  have cl : (cut s A E).length = E - A := cut_len he
  obtain ⟨t, et⟩ : ∃ t, t = cut s A E := ⟨_, rfl⟩
  rw [← et] at hcv cl ⊢
  obtain ⟨bh, ebh⟩ : ∃ bh, bh = behind a c A := ⟨_, rfl⟩
  rw [← ebh] at hcv hcn sb
  obtain ⟨d, ed⟩ : ∃ d, d = E - A := ⟨_, rfl⟩
  rw [← ed] at cl sb
  have d47 : d ≤ 140737488351232 := by omega
  have HV : Hid (View (w.alloc (.cells #[] 5)) bh b2 (off + A) d (fun i => ((gd t i : Nat) : Int))) := by
    have := hcv.below (below_alloc w (.cells #[] 5))
    unfold Vw at this
    rw [cl] at this
    exact this
  have own0 := World.ownsRow_lit (base := w.heap.size) (e := 5) (size := 1) w #[] 0 (Nat.le_refl _) (by decide) rfl
  have HT : Hid (t.length = d ∧ (bh = none → c - A = 0)) := ⟨cl, hcn⟩
  generalize s.length = n at *
  clear hv hcv hcn cl et ebh ed hnil hae
  cases ok with
  | true =>
    go_enter Try.func58, Try.ntmps58
    go_wp2_with (first
      | (go_at_call 78; refine K.mono ?_; rintro e w1 ⟨rfl, rfl⟩; clear K)
      | (refine wpList_append_bytes (by rfl) (.tmp 15) (.tmp 19) (by rfl) w1.heap.size _ 0 _ (by rfl) own0 bh b2 (off + A) d (c - A) _ (by rfl) HV.out HT.out.2 (by omega) (by simp) ?_; intro v2 w2 own2 gr2 nn2; have HZ : Hid (w2.ownsRow w1.heap.size 5 1 v2 t.length (bv t) ∧ Below w1.heap.size w1 w2) := ⟨by rw [← vals_bv, HT.out.1]; simpa using own2, (below_alloc w1 _).trans (grown_below gr2 own0 (Nat.le_refl _) (by simp))⟩; clear own2 gr2 nn2 own0))
    go_ret2
    exact ⟨_, rfl, HZ.out⟩
  | false =>
    go_enter Try.func58, Try.ntmps58
    go_wp2_with (first
      | (go_at_call 78; refine K.mono ?_; rintro e w1 ⟨rfl, rfl⟩; clear K)
      | (refine wpList_append_bytes (by rfl) (.tmp 15) (.tmp 19) (by rfl) w1.heap.size _ 0 _ (by rfl) own0 bh b2 (off + A) d (c - A) _ (by rfl) HV.out HT.out.2 (by omega) (by simp) ?_; intro v2 w2 own2 gr2 nn2; have HZ : Hid (w2.ownsRow w1.heap.size 5 1 v2 t.length (bv t) ∧ Below w1.heap.size w1 w2) := ⟨by rw [← vals_bv, HT.out.1]; simpa using own2, (below_alloc w1 _).trans (grown_below gr2 own0 (Nat.le_refl _) (by simp))⟩; clear own2 gr2 nn2 own0))
    go_ret2
    exact ⟨_, rfl, HZ.out⟩
end Go.Proofs.Ytadcbhjmbgenbaa

/-
  Operations of a region that draws its order, each by a law of its own: nodes.
-/
namespace Go.Proofs.Ytadcbhjmbgenbaa
open Go.RowKit

section
variable {ops : Array Oper} {S : World → Prop} {o : Oper} {a : Act}
theorem y_f62 (hw : Region.wanted o (yielded ops a.tmps) = true) (x : Operand) (f : Nat) (ho : o.op = .fieldAddr 62 x f) (g p : Nat) (hx : a.eval x = .pointer (some ⟨g, p, none⟩)) (hf : f < 3) : YieldsIf Try.prog ops S o (.pointer (some ⟨g, p + f, none⟩)) a :=
  .inl ⟨hw, fun w _ => by
    unfold execOp
    simp only [ho, hx]
    rcases (by omega : f = 0 ∨ f = 1 ∨ f = 2) with rfl | rfl | rfl
    · go_simp
    · go_simp
    · go_simp⟩
theorem y_load4 (hw : Region.wanted o (yielded ops a.tmps) = true) (x : Operand) (ho : o.op = .load 4 x) (g p : Nat) (hx : a.eval x = .pointer (some ⟨g, p, none⟩)) (v : Value) (hS : ∀ w, S w → w.cell? ⟨g, p, none⟩ = some v) : YieldsIf Try.prog ops S o v a :=
  .inl ⟨hw, fun w hs => by
    have c := hS w hs
    unfold execOp
    simp only [ho, hx]
    go_simp⟩
theorem y_load3 (hw : Region.wanted o (yielded ops a.tmps) = true) (x : Operand) (ho : o.op = .load 3 x) (g p : Nat) (hx : a.eval x = .pointer (some ⟨g, p, none⟩)) (v : Value) (hS : ∀ w, S w → w.cell? ⟨g, p, none⟩ = some v) : YieldsIf Try.prog ops S o v a :=
  .inl ⟨hw, fun w hs => by
    have c := hS w hs
    unfold execOp
    simp only [ho, hx]
    go_simp⟩
theorem y_load60 (hw : Region.wanted o (yielded ops a.tmps) = true) (x : Operand) (ho : o.op = .load 60 x) (g p : Nat) (hx : a.eval x = .pointer (some ⟨g, p, none⟩)) (v : Value) (hS : ∀ w, S w → w.cell? ⟨g, p, none⟩ = some v) : YieldsIf Try.prog ops S o v a :=
  .inl ⟨hw, fun w hs => by
    have c := hS w hs
    unfold execOp
    simp only [ho, hx]
    go_simp⟩
theorem y_i60 (hw : Region.wanted o (yielded ops a.tmps) = true) (x i : Operand) (ho : o.op = .indexAddr 60 x i) (g p n c j : Nat) (hx : a.eval x = .slice (some ⟨g, p, none⟩) n c) (hi : a.eval i = .int .i64 j) (hj : j < n) : YieldsIf Try.prog ops S o (.pointer (some ⟨g, p + j * 3, none⟩)) a :=
  .inl ⟨hw, fun w _ => by
    have q : (j : Int) < (n : Int) := by omega
    unfold execOp
    simp only [ho, hx, hi]
    go_simp⟩
theorem y_i27 (hw : Region.wanted o (yielded ops a.tmps) = true) (x i : Operand) (ho : o.op = .indexAddr 27 x i) (g p j : Nat) (hx : a.eval x = .pointer (some ⟨g, p, none⟩)) (hi : a.eval i = .int .i64 j) (hj : j < 16) : YieldsIf Try.prog ops S o (.pointer (some ⟨g, p + j * 34, none⟩)) a :=
  .inl ⟨hw, fun w _ => by
    have q : (j : Int) < 16 := by omega
    unfold execOp
    simp only [ho, hx, hi]
    go_simp⟩
theorem y_f29k (hw : Region.wanted o (yielded ops a.tmps) = true) (x : Operand) (ho : o.op = .fieldAddr 29 x 5) (g : Nat) (hx : a.eval x = .pointer (some ⟨g, 0, none⟩)) : YieldsIf Try.prog ops S o (.pointer (some ⟨g, 38, none⟩)) a :=
  .inl ⟨hw, fun w _ => by
    unfold execOp
    simp only [ho, hx]
    go_simp⟩
theorem y_f29f (hw : Region.wanted o (yielded ops a.tmps) = true) (x : Operand) (f : Nat) (ho : o.op = .fieldAddr 29 x f) (g : Nat) (hx : a.eval x = .pointer (some ⟨g, 0, none⟩)) (hf : f < 5) : YieldsIf Try.prog ops S o (.pointer (some ⟨g, f, none⟩)) a :=
  .inl ⟨hw, fun w _ => by
    unfold execOp
    simp only [ho, hx]
    rcases (by omega : f = 0 ∨ f = 1 ∨ f = 2 ∨ f = 3 ∨ f = 4) with rfl | rfl | rfl | rfl | rfl
    · go_simp
    · go_simp
    · go_simp
    · go_simp
    · go_simp⟩
theorem y_f26a (hw : Region.wanted o (yielded ops a.tmps) = true) (x : Operand) (f : Nat) (ho : o.op = .fieldAddr 26 x f) (g p : Nat) (hx : a.eval x = .pointer (some ⟨g, p, none⟩)) (hf : f < 2) : YieldsIf Try.prog ops S o (.pointer (some ⟨g, p + f, none⟩)) a :=
  .inl ⟨hw, fun w _ => by
    unfold execOp
    simp only [ho, hx]
    rcases (by omega : f = 0 ∨ f = 1) with rfl | rfl
    · go_simp
    · go_simp⟩
theorem y_f26b (hw : Region.wanted o (yielded ops a.tmps) = true) (x : Operand) (ho : o.op = .fieldAddr 26 x 2) (g p : Nat) (hx : a.eval x = .pointer (some ⟨g, p, none⟩)) : YieldsIf Try.prog ops S o (.pointer (some ⟨g, p + 33, none⟩)) a :=
  .inl ⟨hw, fun w _ => by
    unfold execOp
    simp only [ho, hx]
    go_simp⟩
theorem y_ld62 (hw : Region.wanted o (yielded ops a.tmps) = true) (x : Operand) (ho : o.op = .load 62 x) (g p : Nat) (hx : a.eval x = .pointer (some ⟨g, p, none⟩)) (u v z : Value) (hS : ∀ w, S w → w.cell? ⟨g, p, none⟩ = some u ∧ w.cell? ⟨g, p + 1, none⟩ = some v ∧ w.cell? ⟨g, p + 2, none⟩ = some z) : YieldsIf Try.prog ops S o (.agg #[u, v, z]) a :=
  yieldsIf_load_mid hw _ _ ho g p hx [u, v, z] _ (fun w hs => range3 (hS w hs).1 (hS w hs).2.1 (hS w hs).2.2) Try.underlying62 rfl info25s
theorem y_ld26 (hw : Region.wanted o (yielded ops a.tmps) = true) (x : Operand) (ho : o.op = .load 26 x) (g p : Nat) (hx : a.eval x = .pointer (some ⟨g, p, none⟩)) (r : Rf) (v : Value) (hr : r.h.length = 32) (hS : ∀ w, S w → w.rangeAt g p (rcs r v)) : YieldsIf Try.prog ops S o (.agg (rcs r v).toArray) a :=
  yieldsIf_load_mid hw _ _ ho g p hx (rcs r v) _ hS Try.underlying26 rfl (info_rcs hr v)
theorem y_ld24 (hw : Region.wanted o (yielded ops a.tmps) = true) (x : Operand) (ho : o.op = .load 24 x) (g p : Nat) (hx : a.eval x = .pointer (some ⟨g, p, none⟩)) (s : List Nat) (hr : s.length = 32) (hS : ∀ w, S w → w.rangeAt g p (bv s)) : YieldsIf Try.prog ops S o (.agg (bv s).toArray) a :=
  yieldsIf_load_mid hw _ _ ho g p hx (bv s) _ hS Try.underlying24 rfl (info_bv hr)
theorem y_ld29 (hw : Region.wanted o (yielded ops a.tmps) = true) (x : Operand) (ho : o.op = .load 29 x) (g : Nat) (hx : a.eval x = .pointer (some ⟨g, 0, none⟩)) (n : Nd) (u : Nv) (hr : n.W) (hS : ∀ w, S w → w.rangeAt g 0 (nc n u)) : YieldsIf Try.prog ops S o (.agg (nc n u).toArray) a :=
  yieldsIf_load_mid hw _ _ ho g 0 hx (nc n u) _ hS Try.underlying29 rfl (info_nc hr u)
theorem y_bd (hw : Region.wanted o (yielded ops a.tmps) = true) (t : TypeId) (L : List (Nat × Operand)) (ho : o.op = .build t L.toArray) (cells : Array Value)
    (hb : Try.prog.built t (L.map fun (i, x) => (i, a.eval x)) = some cells) : YieldsIf Try.prog ops S o (.agg cells) a :=
  .inl ⟨hw, fun w _ => by
    have hb' : Try.prog.built t (L.toArray.map fun (i, x) => (i, a.eval x)).toList = some cells := by simp only [List.map_toArray]; exact hb
    unfold execOp
    simp only [ho, Sem.run_bind, run_build w t _ cells hb', Result.andThen_ok]
    rfl⟩
theorem y_not (hw : Region.wanted o (yielded ops a.tmps) = true) (x : Operand) (ho : o.op = .unOp .not 4 x) (b : Bool) (hx : a.eval x = .bool b) : YieldsIf Try.prog ops S o (.bool (!b)) a :=
  .inl ⟨hw, fun w _ => by
    unfold execOp
    simp only [ho, hx]
    go_simp⟩
theorem y_ext (hw : Region.wanted o (yielded ops a.tmps) = true) (x : Operand) (i : Nat) (ho : o.op = .extract x i) (vs : Array Value) (v : Value) (hx : a.eval x = .tuple vs) (hv : vs[i]? = some v) : YieldsIf Try.prog ops S o v a :=
  .inl ⟨hw, fun w _ => by
    unfold execOp
    simp only [ho, hx, Instr.extract, hv]
    rfl⟩
theorem r_st29b {Q : Exit → Act → World → Prop} {w : World} {K : Act → World → Prop} {E : Prop} (hw : Region.wanted o (yielded ops a.tmps) = true) (x y : Operand) (ho : o.op = .store 29 x y) (b : Nat) (n m : Nd) (u t : Nv) (hn : n.W) (hm : m.W) (h1 : (nc n u).toArray.all (·.oneCell') = true) (hb : w.heap[b]? = some (.cells (nc m t).toArray 29 (0, 0)))
    (hx : a.eval x = .pointer (some ⟨b, 0, none⟩)) (hy : a.eval y = .agg (nc n u).toArray) (h : K (a.put o.dst undef) (w.setRow b (nc n u).toArray)) :
    if Region.wanted o (yielded ops a.tmps) = true then Oper.wp Try.prog o a w K Q else E := by
  rw [if_pos hw]
  exact wp_store_row 29 x y ho b (nc n u).toArray hx hy 29 (nc m t).toArray hb (by rw [List.size_toArray]; exact info_nc hn u) (by rw [List.size_toArray, List.size_toArray, nc_len hn, nc_len hm]) h1 h
end
end Go.Proofs.Ytadcbhjmbgenbaa
