/-
  What is read at one place, and what is stored into one cell, in a region that draws its order (gen_yu.py).
-/
import Derived.Test.YthjcndlapelnlaaYt
namespace Go.Proofs.Ythjcndlapelnlaa
open Go.RowKit Go.Maps

section
variable {ops : Array Oper} {o : Oper} {a : Act} {Q : Exit → Act → World → Prop} {w : World} {K : Act → World → Prop}
/-- what yields in this world -/
theorem r_yield {v : Value} (hy : YieldsIf Try.prog ops (fun u => u = w) o v a) (h : K (a.put o.dst v) w) : if Region.wanted o (yielded ops a.tmps) = true then Oper.wp Try.prog o a w K Q else K (a.put o.dst undef) w := by
  rcases hy with ⟨hw, hr⟩ | ⟨hw, rfl⟩
  · rw [if_pos hw]
    unfold Oper.wp
    rw [hr w rfl]
    exact h
  · rw [if_neg (by rw [hw]; decide)]
    exact h
theorem r_s_byt {E : Prop} (hw : Region.wanted o (yielded ops a.tmps) = true) (x y : Operand) (ho : o.op = .store 29 x y) (g p : Nat) (hx : a.eval x = .pointer (some ⟨g, p, none⟩)) (v old : Value) (hy : a.eval y = v) (hv : ∃ b n c, v = .slice b n c) (hc : w.cell? ⟨g, p, none⟩ = some old) (hf : w.frozen? ⟨g, p, none⟩ = false) (h : K (a.put o.dst undef) (w.setCell ⟨g, p, none⟩ v)) :
    if Region.wanted o (yielded ops a.tmps) = true then Oper.wp Try.prog o a w K Q else E := by
  refine r_unit hw _ ?_ h
  obtain ⟨b, n, c, rfl⟩ := hv
  unfold execOp
  simp only [ho, hx, hy]
  go_simp
theorem r_s_hs {E : Prop} (hw : Region.wanted o (yielded ops a.tmps) = true) (x y : Operand) (ho : o.op = .store 34 x y) (g p : Nat) (hx : a.eval x = .pointer (some ⟨g, p, none⟩)) (v old : Value) (hy : a.eval y = v) (hv : ∃ b n c, v = .slice b n c) (hc : w.cell? ⟨g, p, none⟩ = some old) (hf : w.frozen? ⟨g, p, none⟩ = false) (h : K (a.put o.dst undef) (w.setCell ⟨g, p, none⟩ v)) :
    if Region.wanted o (yielded ops a.tmps) = true then Oper.wp Try.prog o a w K Q else E := by
  refine r_unit hw _ ?_ h
  obtain ⟨b, n, c, rfl⟩ := hv
  unfold execOp
  simp only [ho, hx, hy]
  go_simp
theorem r_s_acc {E : Prop} (hw : Region.wanted o (yielded ops a.tmps) = true) (x y : Operand) (ho : o.op = .store 49 x y) (g p : Nat) (hx : a.eval x = .pointer (some ⟨g, p, none⟩)) (v old : Value) (hy : a.eval y = v) (hv : ∃ b n c, v = .slice b n c) (hc : w.cell? ⟨g, p, none⟩ = some old) (hf : w.frozen? ⟨g, p, none⟩ = false) (h : K (a.put o.dst undef) (w.setCell ⟨g, p, none⟩ v)) :
    if Region.wanted o (yielded ops a.tmps) = true then Oper.wp Try.prog o a w K Q else E := by
  refine r_unit hw _ ?_ h
  obtain ⟨b, n, c, rfl⟩ := hv
  unfold execOp
  simp only [ho, hx, hy]
  go_simp
theorem r_s_lists {E : Prop} (hw : Region.wanted o (yielded ops a.tmps) = true) (x y : Operand) (ho : o.op = .store 60 x y) (g p : Nat) (hx : a.eval x = .pointer (some ⟨g, p, none⟩)) (v old : Value) (hy : a.eval y = v) (hv : ∃ b n c, v = .slice b n c) (hc : w.cell? ⟨g, p, none⟩ = some old) (hf : w.frozen? ⟨g, p, none⟩ = false) (h : K (a.put o.dst undef) (w.setCell ⟨g, p, none⟩ v)) :
    if Region.wanted o (yielded ops a.tmps) = true then Oper.wp Try.prog o a w K Q else E := by
  refine r_unit hw _ ?_ h
  obtain ⟨b, n, c, rfl⟩ := hv
  unfold execOp
  simp only [ho, hx, hy]
  go_simp
end
/-! ### rows of one more -/
theorem info60 : (Try.prog.info? 29).map (fun i => (i.zero, i.size, i.bytes)) = some (some nilS, 1, 24) := by kernel_rfl
theorem info93 : (Try.prog.info? 93).map (fun i => (i.zero, i.size, i.bytes)) = some (some (.agg #[.int .i64 0, nilS, .bool false]), 3, 40) := by kernel_rfl
theorem info33 : (Try.prog.info? 33).map (fun i => (i.zero, i.size, i.bytes)) = some (some (.agg (bv z32).toArray), 32, 32) := by kernel_rfl
section
variable {ops : Array Oper} {o : Oper} {a : Act} {Q : Exit → Act → World → Prop} {w : World} {K : Act → World → Prop} {E : Prop}
theorem r_one_lists (hw : Region.wanted o (yielded ops a.tmps) = true) (x : Operand) (ho : o.op = .buildSlice 60 1 #[(0, x)]) (v : Value) (cs : List Value) (hx : a.eval x = v) (hcs : v.cells = cs.toArray) (hl : cs.length = 1)
    (h : K (a.put o.dst (.slice (some ⟨w.heap.size, 0, none⟩) 1 1)) (w.alloc (.cells cs.toArray 29))) : if Region.wanted o (yielded ops a.tmps) = true then Oper.wp Try.prog o a w K Q else E := by
  obtain ⟨i0, hi0, hz0, hz1, hz2⟩ := info_parts info60
  exact r_one hw 60 29 x ho v cs hx hcs i0 _ Try.underlying60 hi0 hz0 (by rw [hz1, hl]) (by omega) (by omega) h
theorem r_app_lists (hw : Region.wanted o (yielded ops a.tmps) = true) (s x : Operand) (ho : o.op = .call { callee := .builtin .append, args := #[s, x], argTypes := #[60, 60] }) (v : Value) (n : Nat) (xs : List Value) (hs : a.eval s = v) (hown : w.ownsRow 0 29 1 v n xs) (b : Nat) (news : List Value)
    (hx : a.eval x = .slice (some ⟨b, 0, none⟩) 1 1) (hl : news.length = 1) (hb : w.rangeAt b 0 news) (h1 : ∀ u ∈ news, u.oneCell' = true) (hn : n ≤ 1073741824)
    (h : ∀ v' w', w'.ownsRow 0 29 1 v' (n + 1) (xs ++ news) → w.grownBy w' v.ownBlock → (v'.ownBlock = v.ownBlock ∨ v'.ownBlock = some w.heap.size) → K (a.put o.dst v') w') : if Region.wanted o (yielded ops a.tmps) = true then Oper.wp Try.prog o a w K Q else E := by
  obtain ⟨i0, hi0, hz0, hz1, hz2⟩ := info_parts info60
  refine r_append hw s x 60 ho 0 29 i0 _ 1 24 Try.underlying60 hi0 hz0 hz1 hz2 ?_ (by decide) v n xs hs hown ⟨b, 0, none⟩ 1 1 news hx (by omega) (fun j u hu => ?_) h1 (by unfold maxLen; omega) (by omega) (Nat.zero_le _) h
  · rfl
  · rw [add_flat]
    have := hb j u hu
    rw [Nat.zero_add] at this
    exact this
theorem r_one_stays (hw : Region.wanted o (yielded ops a.tmps) = true) (x : Operand) (ho : o.op = .buildSlice 94 1 #[(0, x)]) (v : Value) (cs : List Value) (hx : a.eval x = v) (hcs : v.cells = cs.toArray) (hl : cs.length = 3)
    (h : K (a.put o.dst (.slice (some ⟨w.heap.size, 0, none⟩) 1 1)) (w.alloc (.cells cs.toArray 93))) : if Region.wanted o (yielded ops a.tmps) = true then Oper.wp Try.prog o a w K Q else E := by
  obtain ⟨i0, hi0, hz0, hz1, hz2⟩ := info_parts info93
  exact r_one hw 94 93 x ho v cs hx hcs i0 _ Try.underlying94 hi0 hz0 (by rw [hz1, hl]) (by omega) (by omega) h
theorem r_app_stays (hw : Region.wanted o (yielded ops a.tmps) = true) (s x : Operand) (ho : o.op = .call { callee := .builtin .append, args := #[s, x], argTypes := #[94, 94] }) (v : Value) (n : Nat) (xs : List Value) (hs : a.eval s = v) (hown : w.ownsRow 0 93 3 v n xs) (b : Nat) (news : List Value)
    (hx : a.eval x = .slice (some ⟨b, 0, none⟩) 1 1) (hl : news.length = 3) (hb : w.rangeAt b 0 news) (h1 : ∀ u ∈ news, u.oneCell' = true) (hn : n ≤ 1073741824)
    (h : ∀ v' w', w'.ownsRow 0 93 3 v' (n + 1) (xs ++ news) → w.grownBy w' v.ownBlock → (v'.ownBlock = v.ownBlock ∨ v'.ownBlock = some w.heap.size) → K (a.put o.dst v') w') : if Region.wanted o (yielded ops a.tmps) = true then Oper.wp Try.prog o a w K Q else E := by
  obtain ⟨i0, hi0, hz0, hz1, hz2⟩ := info_parts info93
  refine r_append hw s x 94 ho 0 93 i0 _ 3 40 Try.underlying94 hi0 hz0 hz1 hz2 ?_ (by decide) v n xs hs hown ⟨b, 0, none⟩ 1 1 news hx (by omega) (fun j u hu => ?_) h1 (by unfold maxLen; omega) (by omega) (Nat.zero_le _) h
  · rfl
  · rw [add_flat]
    have := hb j u hu
    rw [Nat.zero_add] at this
    exact this
theorem r_one_hs (hw : Region.wanted o (yielded ops a.tmps) = true) (x : Operand) (ho : o.op = .buildSlice 34 1 #[(0, x)]) (v : Value) (cs : List Value) (hx : a.eval x = v) (hcs : v.cells = cs.toArray) (hl : cs.length = 32)
    (h : K (a.put o.dst (.slice (some ⟨w.heap.size, 0, none⟩) 1 1)) (w.alloc (.cells cs.toArray 33))) : if Region.wanted o (yielded ops a.tmps) = true then Oper.wp Try.prog o a w K Q else E := by
  obtain ⟨i0, hi0, hz0, hz1, hz2⟩ := info_parts info33
  exact r_one hw 34 33 x ho v cs hx hcs i0 _ Try.underlying34 hi0 hz0 (by rw [hz1, hl]) (by omega) (by omega) h
theorem r_app_hs (hw : Region.wanted o (yielded ops a.tmps) = true) (s x : Operand) (ho : o.op = .call { callee := .builtin .append, args := #[s, x], argTypes := #[34, 34] }) (v : Value) (n : Nat) (xs : List Value) (hs : a.eval s = v) (hown : w.ownsRow 0 33 32 v n xs) (b : Nat) (news : List Value)
    (hx : a.eval x = .slice (some ⟨b, 0, none⟩) 1 1) (hl : news.length = 32) (hb : w.rangeAt b 0 news) (h1 : ∀ u ∈ news, u.oneCell' = true) (hn : n ≤ 1073741824)
    (h : ∀ v' w', w'.ownsRow 0 33 32 v' (n + 1) (xs ++ news) → w.grownBy w' v.ownBlock → (v'.ownBlock = v.ownBlock ∨ v'.ownBlock = some w.heap.size) → K (a.put o.dst v') w') : if Region.wanted o (yielded ops a.tmps) = true then Oper.wp Try.prog o a w K Q else E := by
  obtain ⟨i0, hi0, hz0, hz1, hz2⟩ := info_parts info33
  refine r_append hw s x 34 ho 0 33 i0 _ 32 32 Try.underlying34 hi0 hz0 hz1 hz2 ?_ (by decide) v n xs hs hown ⟨b, 0, none⟩ 1 1 news hx (by omega) (fun j u hu => ?_) h1 (by unfold maxLen; omega) (by omega) (Nat.zero_le _) h
  · exact hA_size isH_z32
  · rw [add_flat]
    have := hb j u hu
    rw [Nat.zero_add] at this
    exact this
theorem r_one_acc (hw : Region.wanted o (yielded ops a.tmps) = true) (x : Operand) (ho : o.op = .buildSlice 49 1 #[(0, x)]) (v : Value) (cs : List Value) (hx : a.eval x = v) (hcs : v.cells = cs.toArray) (hl : cs.length = 3)
    (h : K (a.put o.dst (.slice (some ⟨w.heap.size, 0, none⟩) 1 1)) (w.alloc (.cells cs.toArray 82))) : if Region.wanted o (yielded ops a.tmps) = true then Oper.wp Try.prog o a w K Q else E := by
  obtain ⟨i0, hi0, hz0, hz1, hz2⟩ := info_parts info82
  exact r_one hw 49 82 x ho v cs hx hcs i0 _ Try.underlying49 hi0 hz0 (by rw [hz1, hl]) (by omega) (by omega) h
theorem r_app_acc (hw : Region.wanted o (yielded ops a.tmps) = true) (s x : Operand) (ho : o.op = .call { callee := .builtin .append, args := #[s, x], argTypes := #[49, 49] }) (v : Value) (n : Nat) (xs : List Value) (hs : a.eval s = v) (hown : w.ownsRow 0 82 3 v n xs) (b : Nat) (news : List Value)
    (hx : a.eval x = .slice (some ⟨b, 0, none⟩) 1 1) (hl : news.length = 3) (hb : w.rangeAt b 0 news) (h1 : ∀ u ∈ news, u.oneCell' = true) (hn : n ≤ 1073741824)
    (h : ∀ v' w', w'.ownsRow 0 82 3 v' (n + 1) (xs ++ news) → w.grownBy w' v.ownBlock → (v'.ownBlock = v.ownBlock ∨ v'.ownBlock = some w.heap.size) → K (a.put o.dst v') w') : if Region.wanted o (yielded ops a.tmps) = true then Oper.wp Try.prog o a w K Q else E := by
  obtain ⟨i0, hi0, hz0, hz1, hz2⟩ := info_parts info82
  refine r_append hw s x 49 ho 0 82 i0 _ 3 24 Try.underlying49 hi0 hz0 hz1 hz2 ?_ (by decide) v n xs hs hown ⟨b, 0, none⟩ 1 1 news hx (by omega) (fun j u hu => ?_) h1 (by unfold maxLen; omega) (by omega) (Nat.zero_le _) h
  · rfl
  · rw [add_flat]
    have := hb j u hu
    rw [Nat.zero_add] at this
    exact this
end
end Go.Proofs.Ythjcndlapelnlaa
