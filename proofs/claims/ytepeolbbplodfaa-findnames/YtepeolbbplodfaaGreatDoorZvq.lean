import Derived.Test.YtepeolbbplodfaaGreatDoorZsq
import Derived.Deep.AppendLies
/-
  Operations of a region that draws its order: the place of an element (gen_fys.py).
-/
namespace Go.Proofs.YtepeolbbplodfaaGreatDoor.Z
open Go.RowKit

section
variable {ops : Array Oper} {S : World → Prop} {o : Oper} {a : Act}
theorem y_i_tolds (hw : Region.wanted o (yielded ops a.tmps) = true) (x i : Operand) (ho : o.op = .indexAddr 25 x i) (g p n c j : Nat) (hx : a.eval x = .slice (some ⟨g, p, none⟩) n c) (hi : a.eval i = .int .i64 j) (hj : j < n) : YieldsIf Tryz.prog ops S o (.pointer (some ⟨g, p + j * 34, none⟩)) a :=
  .inl ⟨hw, fun w hs => by
    have q : (j : Int) < (n : Int) := by omega
    unfold execOp
    simp only [ho, hx, hi]
    go_simp⟩
theorem y_i_blobs (hw : Region.wanted o (yielded ops a.tmps) = true) (x i : Operand) (ho : o.op = .indexAddr 43 x i) (g p n c j : Nat) (hx : a.eval x = .slice (some ⟨g, p, none⟩) n c) (hi : a.eval i = .int .i64 j) (hj : j < n) : YieldsIf Tryz.prog ops S o (.pointer (some ⟨g, p + j * 33, none⟩)) a :=
  .inl ⟨hw, fun w hs => by
    have q : (j : Int) < (n : Int) := by omega
    unfold execOp
    simp only [ho, hx, hi]
    go_simp⟩
theorem y_i_entries (hw : Region.wanted o (yielded ops a.tmps) = true) (x i : Operand) (ho : o.op = .indexAddr 40 x i) (g p n c j : Nat) (hx : a.eval x = .slice (some ⟨g, p, none⟩) n c) (hi : a.eval i = .int .i64 j) (hj : j < n) : YieldsIf Tryz.prog ops S o (.pointer (some ⟨g, p + j * 2, none⟩)) a :=
  .inl ⟨hw, fun w hs => by
    have q : (j : Int) < (n : Int) := by omega
    unfold execOp
    simp only [ho, hx, hi]
    go_simp⟩
theorem y_i_rows (hw : Region.wanted o (yielded ops a.tmps) = true) (x i : Operand) (ho : o.op = .indexAddr 103 x i) (g p n c j : Nat) (hx : a.eval x = .slice (some ⟨g, p, none⟩) n c) (hi : a.eval i = .int .i64 j) (hj : j < n) : YieldsIf Tryz.prog ops S o (.pointer (some ⟨g, p + j * 2, none⟩)) a :=
  .inl ⟨hw, fun w hs => by
    have q : (j : Int) < (n : Int) := by omega
    unfold execOp
    simp only [ho, hx, hi]
    go_simp⟩
theorem y_i_byt (hw : Region.wanted o (yielded ops a.tmps) = true) (x i : Operand) (ho : o.op = .indexAddr 33 x i) (g p n c j : Nat) (hx : a.eval x = .slice (some ⟨g, p, none⟩) n c) (hi : a.eval i = .int .i64 j) (hj : j < n) : YieldsIf Tryz.prog ops S o (.pointer (some ⟨g, p + j, none⟩)) a :=
  .inl ⟨hw, fun w hs => by
    have q : (j : Int) < (n : Int) := by omega
    unfold execOp
    simp only [ho, hx, hi]
    go_simp⟩
theorem y_i_lists (hw : Region.wanted o (yielded ops a.tmps) = true) (x i : Operand) (ho : o.op = .indexAddr 27 x i) (g p n c j : Nat) (hx : a.eval x = .slice (some ⟨g, p, none⟩) n c) (hi : a.eval i = .int .i64 j) (hj : j < n) : YieldsIf Tryz.prog ops S o (.pointer (some ⟨g, p + j, none⟩)) a :=
  .inl ⟨hw, fun w hs => by
    have q : (j : Int) < (n : Int) := by omega
    unfold execOp
    simp only [ho, hx, hi]
    go_simp⟩
theorem y_i_hs (hw : Region.wanted o (yielded ops a.tmps) = true) (x i : Operand) (ho : o.op = .indexAddr 26 x i) (g p n c j : Nat) (hx : a.eval x = .slice (some ⟨g, p, none⟩) n c) (hi : a.eval i = .int .i64 j) (hj : j < n) : YieldsIf Tryz.prog ops S o (.pointer (some ⟨g, p + j * 32, none⟩)) a :=
  .inl ⟨hw, fun w hs => by
    have q : (j : Int) < (n : Int) := by omega
    unfold execOp
    simp only [ho, hx, hi]
    go_simp⟩
end
end Go.Proofs.YtepeolbbplodfaaGreatDoor.Z

/-
  Rows of one more, and stores of one cell, in a region that draws its order (gen_zu.py).
-/
namespace Go.Proofs.YtepeolbbplodfaaGreatDoor.Z
open Go.RowKit

section
variable {ops : Array Oper} {o : Oper} {a : Act} {Q : Exit → Act → World → Prop} {w : World} {K : Act → World → Prop}
/-- what yields in this world -/
theorem r_yield {v : Value} (hy : YieldsIf Tryz.prog ops (fun u => u = w) o v a) (h : K (a.put o.dst v) w) : if Region.wanted o (yielded ops a.tmps) = true then Oper.wp Tryz.prog o a w K Q else K (a.put o.dst undef) w := by
  rcases hy with ⟨hw, hr⟩ | ⟨hw, rfl⟩
  · rw [if_pos hw]
    unfold Oper.wp
    rw [hr w rfl]
    exact h
  · rw [if_neg (by rw [hw]; decide)]
    exact h
theorem r_s_hs {E : Prop} (hw : Region.wanted o (yielded ops a.tmps) = true) (x y : Operand) (ho : o.op = .store 26 x y) (g p : Nat) (hx : a.eval x = .pointer (some ⟨g, p, none⟩)) (v old : Value) (hy : a.eval y = v) (hv : ∃ b n c, v = .slice b n c) (hc : w.cell? ⟨g, p, none⟩ = some old) (hf : w.frozen? ⟨g, p, none⟩ = false) (h : K (a.put o.dst undef) (w.setCell ⟨g, p, none⟩ v)) :
    if Region.wanted o (yielded ops a.tmps) = true then Oper.wp Tryz.prog o a w K Q else E := by
  refine r_unit hw _ ?_ h
  obtain ⟨b, n, c, rfl⟩ := hv
  unfold execOp
  simp only [ho, hx, hy]
  go_simp
theorem i_hs : (Tryz.prog.info? 31).map (fun i => (i.zero, i.size, i.bytes)) = some (some (.agg (bv z32).toArray), 32, 32) := by kernel_rfl
theorem r_one_hs {E : Prop} (hw : Region.wanted o (yielded ops a.tmps) = true) (x : Operand) (ho : o.op = .buildSlice 26 1 #[(0, x)]) (v : Value) (cs : List Value) (hx : a.eval x = v) (hcs : v.cells = cs.toArray) (hl : cs.length = 32)
    (h : K (a.put o.dst (.slice (some ⟨w.heap.size, 0, none⟩) 1 1)) (w.alloc (.cells cs.toArray 31))) : if Region.wanted o (yielded ops a.tmps) = true then Oper.wp Tryz.prog o a w K Q else E := by
  obtain ⟨i0, hi0, hz0, hz1, hz2⟩ := info_parts i_hs
  exact r_one hw 26 31 x ho v cs hx hcs i0 _ Tryz.underlying26 hi0 hz0 (by rw [hz1, hl]) (by omega) (by omega) h
theorem r_app_hs {E : Prop} (B : Nat) (hw : Region.wanted o (yielded ops a.tmps) = true) (s x : Operand) (ho : o.op = .call { callee := .builtin .append, args := #[s, x], argTypes := #[26, 26] }) (v : Value) (n : Nat) (xs : List Value) (hs : a.eval s = v) (hown : w.ownsRow B 31 32 v n xs) (b : Nat) (news : List Value)
    (hx : a.eval x = .slice (some ⟨b, 0, none⟩) 1 1) (hl : news.length = 32) (hb : w.rangeAt b 0 news) (h1 : ∀ u ∈ news, u.oneCell' = true) (hn : n ≤ 1073741824) (hB : B ≤ w.heap.size)
    (h : ∀ v' w', w'.ownsRow B 31 32 v' (n + 1) (xs ++ news) → w.grownBy w' v.ownBlock → (v'.ownBlock = v.ownBlock ∨ v'.ownBlock = some w.heap.size) → K (a.put o.dst v') w') : if Region.wanted o (yielded ops a.tmps) = true then Oper.wp Tryz.prog o a w K Q else E := by
  obtain ⟨i0, hi0, hz0, hz1, hz2⟩ := info_parts i_hs
  refine r_append hw s x 26 ho B 31 i0 _ 32 32 Tryz.underlying26 hi0 hz0 hz1 hz2 ?_ (by decide) v n xs hs hown ⟨b, 0, none⟩ 1 1 news hx (by omega) (fun j u hu => ?_) h1 (by unfold maxLen; omega) (by omega) hB h
  · kernel_rfl
  · rw [add_flat]
    have := hb j u hu
    rw [Nat.zero_add] at this
    exact this
theorem r_s_lists {E : Prop} (hw : Region.wanted o (yielded ops a.tmps) = true) (x y : Operand) (ho : o.op = .store 27 x y) (g p : Nat) (hx : a.eval x = .pointer (some ⟨g, p, none⟩)) (v old : Value) (hy : a.eval y = v) (hv : ∃ b n c, v = .slice b n c) (hc : w.cell? ⟨g, p, none⟩ = some old) (hf : w.frozen? ⟨g, p, none⟩ = false) (h : K (a.put o.dst undef) (w.setCell ⟨g, p, none⟩ v)) :
    if Region.wanted o (yielded ops a.tmps) = true then Oper.wp Tryz.prog o a w K Q else E := by
  refine r_unit hw _ ?_ h
  obtain ⟨b, n, c, rfl⟩ := hv
  unfold execOp
  simp only [ho, hx, hy]
  go_simp
theorem i_lists : (Tryz.prog.info? 33).map (fun i => (i.zero, i.size, i.bytes)) = some (some (.slice none 0 0), 1, 24) := by kernel_rfl
theorem r_one_lists {E : Prop} (hw : Region.wanted o (yielded ops a.tmps) = true) (x : Operand) (ho : o.op = .buildSlice 27 1 #[(0, x)]) (v : Value) (cs : List Value) (hx : a.eval x = v) (hcs : v.cells = cs.toArray) (hl : cs.length = 1)
    (h : K (a.put o.dst (.slice (some ⟨w.heap.size, 0, none⟩) 1 1)) (w.alloc (.cells cs.toArray 33))) : if Region.wanted o (yielded ops a.tmps) = true then Oper.wp Tryz.prog o a w K Q else E := by
  obtain ⟨i0, hi0, hz0, hz1, hz2⟩ := info_parts i_lists
  exact r_one hw 27 33 x ho v cs hx hcs i0 _ Tryz.underlying27 hi0 hz0 (by rw [hz1, hl]) (by omega) (by omega) h
theorem r_app_lists {E : Prop} (B : Nat) (hw : Region.wanted o (yielded ops a.tmps) = true) (s x : Operand) (ho : o.op = .call { callee := .builtin .append, args := #[s, x], argTypes := #[27, 27] }) (v : Value) (n : Nat) (xs : List Value) (hs : a.eval s = v) (hown : w.ownsRow B 33 1 v n xs) (b : Nat) (news : List Value)
    (hx : a.eval x = .slice (some ⟨b, 0, none⟩) 1 1) (hl : news.length = 1) (hb : w.rangeAt b 0 news) (h1 : ∀ u ∈ news, u.oneCell' = true) (hn : n ≤ 1073741824) (hB : B ≤ w.heap.size)
    (h : ∀ v' w', w'.ownsRow B 33 1 v' (n + 1) (xs ++ news) → w.grownBy w' v.ownBlock → (v'.ownBlock = v.ownBlock ∨ v'.ownBlock = some w.heap.size) → K (a.put o.dst v') w') : if Region.wanted o (yielded ops a.tmps) = true then Oper.wp Tryz.prog o a w K Q else E := by
  obtain ⟨i0, hi0, hz0, hz1, hz2⟩ := info_parts i_lists
  refine r_append hw s x 27 ho B 33 i0 _ 1 24 Tryz.underlying27 hi0 hz0 hz1 hz2 ?_ (by decide) v n xs hs hown ⟨b, 0, none⟩ 1 1 news hx (by omega) (fun j u hu => ?_) h1 (by unfold maxLen; omega) (by omega) hB h
  · kernel_rfl
  · rw [add_flat]
    have := hb j u hu
    rw [Nat.zero_add] at this
    exact this
theorem r_s_tolds {E : Prop} (hw : Region.wanted o (yielded ops a.tmps) = true) (x y : Operand) (ho : o.op = .store 25 x y) (g p : Nat) (hx : a.eval x = .pointer (some ⟨g, p, none⟩)) (v old : Value) (hy : a.eval y = v) (hv : ∃ b n c, v = .slice b n c) (hc : w.cell? ⟨g, p, none⟩ = some old) (hf : w.frozen? ⟨g, p, none⟩ = false) (h : K (a.put o.dst undef) (w.setCell ⟨g, p, none⟩ v)) :
    if Region.wanted o (yielded ops a.tmps) = true then Oper.wp Tryz.prog o a w K Q else E := by
  refine r_unit hw _ ?_ h
  obtain ⟨b, n, c, rfl⟩ := hv
  unfold execOp
  simp only [ho, hx, hy]
  go_simp
theorem i_tolds : (Tryz.prog.info? 56).map (fun i => (i.zero, i.size, i.bytes)) = some (some (.agg (bv z32 ++ [Value.slice none 0 0, Value.int .i64 0]).toArray), 34, 64) := by kernel_rfl
theorem r_one_tolds {E : Prop} (hw : Region.wanted o (yielded ops a.tmps) = true) (x : Operand) (ho : o.op = .buildSlice 25 1 #[(0, x)]) (v : Value) (cs : List Value) (hx : a.eval x = v) (hcs : v.cells = cs.toArray) (hl : cs.length = 34)
    (h : K (a.put o.dst (.slice (some ⟨w.heap.size, 0, none⟩) 1 1)) (w.alloc (.cells cs.toArray 56))) : if Region.wanted o (yielded ops a.tmps) = true then Oper.wp Tryz.prog o a w K Q else E := by
  obtain ⟨i0, hi0, hz0, hz1, hz2⟩ := info_parts i_tolds
  exact r_one hw 25 56 x ho v cs hx hcs i0 _ Tryz.underlying25 hi0 hz0 (by rw [hz1, hl]) (by omega) (by omega) h
theorem r_app_tolds {E : Prop} (B : Nat) (hw : Region.wanted o (yielded ops a.tmps) = true) (s x : Operand) (ho : o.op = .call { callee := .builtin .append, args := #[s, x], argTypes := #[25, 25] }) (v : Value) (n : Nat) (xs : List Value) (hs : a.eval s = v) (hown : w.ownsRow B 56 34 v n xs) (b : Nat) (news : List Value)
    (hx : a.eval x = .slice (some ⟨b, 0, none⟩) 1 1) (hl : news.length = 34) (hb : w.rangeAt b 0 news) (h1 : ∀ u ∈ news, u.oneCell' = true) (hn : n ≤ 1073741824) (hB : B ≤ w.heap.size)
    (h : ∀ v' w', w'.ownsRow B 56 34 v' (n + 1) (xs ++ news) → w.grownBy w' v.ownBlock → (v'.ownBlock = v.ownBlock ∨ v'.ownBlock = some w.heap.size) → K (a.put o.dst v') w') : if Region.wanted o (yielded ops a.tmps) = true then Oper.wp Tryz.prog o a w K Q else E := by
  obtain ⟨i0, hi0, hz0, hz1, hz2⟩ := info_parts i_tolds
  refine r_append hw s x 25 ho B 56 i0 _ 34 64 Tryz.underlying25 hi0 hz0 hz1 hz2 ?_ (by decide) v n xs hs hown ⟨b, 0, none⟩ 1 1 news hx (by omega) (fun j u hu => ?_) h1 (by unfold maxLen; omega) (by omega) hB h
  · kernel_rfl
  · rw [add_flat]
    have := hb j u hu
    rw [Nat.zero_add] at this
    exact this
theorem r_s_blobs {E : Prop} (hw : Region.wanted o (yielded ops a.tmps) = true) (x y : Operand) (ho : o.op = .store 43 x y) (g p : Nat) (hx : a.eval x = .pointer (some ⟨g, p, none⟩)) (v old : Value) (hy : a.eval y = v) (hv : ∃ b n c, v = .slice b n c) (hc : w.cell? ⟨g, p, none⟩ = some old) (hf : w.frozen? ⟨g, p, none⟩ = false) (h : K (a.put o.dst undef) (w.setCell ⟨g, p, none⟩ v)) :
    if Region.wanted o (yielded ops a.tmps) = true then Oper.wp Tryz.prog o a w K Q else E := by
  refine r_unit hw _ ?_ h
  obtain ⟨b, n, c, rfl⟩ := hv
  unfold execOp
  simp only [ho, hx, hy]
  go_simp
theorem i_blobs : (Tryz.prog.info? 79).map (fun i => (i.zero, i.size, i.bytes)) = some (some (.agg (bv z32 ++ [Value.slice none 0 0]).toArray), 33, 56) := by kernel_rfl
theorem r_one_blobs {E : Prop} (hw : Region.wanted o (yielded ops a.tmps) = true) (x : Operand) (ho : o.op = .buildSlice 43 1 #[(0, x)]) (v : Value) (cs : List Value) (hx : a.eval x = v) (hcs : v.cells = cs.toArray) (hl : cs.length = 33)
    (h : K (a.put o.dst (.slice (some ⟨w.heap.size, 0, none⟩) 1 1)) (w.alloc (.cells cs.toArray 79))) : if Region.wanted o (yielded ops a.tmps) = true then Oper.wp Tryz.prog o a w K Q else E := by
  obtain ⟨i0, hi0, hz0, hz1, hz2⟩ := info_parts i_blobs
  exact r_one hw 43 79 x ho v cs hx hcs i0 _ Tryz.underlying43 hi0 hz0 (by rw [hz1, hl]) (by omega) (by omega) h
theorem r_app_blobs {E : Prop} (B : Nat) (hw : Region.wanted o (yielded ops a.tmps) = true) (s x : Operand) (ho : o.op = .call { callee := .builtin .append, args := #[s, x], argTypes := #[43, 43] }) (v : Value) (n : Nat) (xs : List Value) (hs : a.eval s = v) (hown : w.ownsRow B 79 33 v n xs) (b : Nat) (news : List Value)
    (hx : a.eval x = .slice (some ⟨b, 0, none⟩) 1 1) (hl : news.length = 33) (hb : w.rangeAt b 0 news) (h1 : ∀ u ∈ news, u.oneCell' = true) (hn : n ≤ 1073741824) (hB : B ≤ w.heap.size)
    (h : ∀ v' w', w'.ownsRow B 79 33 v' (n + 1) (xs ++ news) → w.grownBy w' v.ownBlock → (v'.ownBlock = v.ownBlock ∨ v'.ownBlock = some w.heap.size) → K (a.put o.dst v') w') : if Region.wanted o (yielded ops a.tmps) = true then Oper.wp Tryz.prog o a w K Q else E := by
  obtain ⟨i0, hi0, hz0, hz1, hz2⟩ := info_parts i_blobs
  refine r_append hw s x 43 ho B 79 i0 _ 33 56 Tryz.underlying43 hi0 hz0 hz1 hz2 ?_ (by decide) v n xs hs hown ⟨b, 0, none⟩ 1 1 news hx (by omega) (fun j u hu => ?_) h1 (by unfold maxLen; omega) (by omega) hB h
  · kernel_rfl
  · rw [add_flat]
    have := hb j u hu
    rw [Nat.zero_add] at this
    exact this
theorem r_s_entries {E : Prop} (hw : Region.wanted o (yielded ops a.tmps) = true) (x y : Operand) (ho : o.op = .store 40 x y) (g p : Nat) (hx : a.eval x = .pointer (some ⟨g, p, none⟩)) (v old : Value) (hy : a.eval y = v) (hv : ∃ b n c, v = .slice b n c) (hc : w.cell? ⟨g, p, none⟩ = some old) (hf : w.frozen? ⟨g, p, none⟩ = false) (h : K (a.put o.dst undef) (w.setCell ⟨g, p, none⟩ v)) :
    if Region.wanted o (yielded ops a.tmps) = true then Oper.wp Tryz.prog o a w K Q else E := by
  refine r_unit hw _ ?_ h
  obtain ⟨b, n, c, rfl⟩ := hv
  unfold execOp
  simp only [ho, hx, hy]
  go_simp
theorem i_entries : (Tryz.prog.info? 47).map (fun i => (i.zero, i.size, i.bytes)) = some (some (.agg #[.slice none 0 0, .slice none 0 0]), 2, 48) := by kernel_rfl
theorem r_one_entries {E : Prop} (hw : Region.wanted o (yielded ops a.tmps) = true) (x : Operand) (ho : o.op = .buildSlice 40 1 #[(0, x)]) (v : Value) (cs : List Value) (hx : a.eval x = v) (hcs : v.cells = cs.toArray) (hl : cs.length = 2)
    (h : K (a.put o.dst (.slice (some ⟨w.heap.size, 0, none⟩) 1 1)) (w.alloc (.cells cs.toArray 47))) : if Region.wanted o (yielded ops a.tmps) = true then Oper.wp Tryz.prog o a w K Q else E := by
  obtain ⟨i0, hi0, hz0, hz1, hz2⟩ := info_parts i_entries
  exact r_one hw 40 47 x ho v cs hx hcs i0 _ Tryz.underlying40 hi0 hz0 (by rw [hz1, hl]) (by omega) (by omega) h
theorem r_app_entries {E : Prop} (B : Nat) (hw : Region.wanted o (yielded ops a.tmps) = true) (s x : Operand) (ho : o.op = .call { callee := .builtin .append, args := #[s, x], argTypes := #[40, 40] }) (v : Value) (n : Nat) (xs : List Value) (hs : a.eval s = v) (hown : w.ownsRow B 47 2 v n xs) (b : Nat) (news : List Value)
    (hx : a.eval x = .slice (some ⟨b, 0, none⟩) 1 1) (hl : news.length = 2) (hb : w.rangeAt b 0 news) (h1 : ∀ u ∈ news, u.oneCell' = true) (hn : n ≤ 1073741824) (hB : B ≤ w.heap.size)
    (h : ∀ v' w', w'.ownsRow B 47 2 v' (n + 1) (xs ++ news) → w.grownBy w' v.ownBlock → (v'.ownBlock = v.ownBlock ∨ v'.ownBlock = some w.heap.size) → K (a.put o.dst v') w') : if Region.wanted o (yielded ops a.tmps) = true then Oper.wp Tryz.prog o a w K Q else E := by
  obtain ⟨i0, hi0, hz0, hz1, hz2⟩ := info_parts i_entries
  refine r_append hw s x 40 ho B 47 i0 _ 2 48 Tryz.underlying40 hi0 hz0 hz1 hz2 ?_ (by decide) v n xs hs hown ⟨b, 0, none⟩ 1 1 news hx (by omega) (fun j u hu => ?_) h1 (by unfold maxLen; omega) (by omega) hB h
  · kernel_rfl
  · rw [add_flat]
    have := hb j u hu
    rw [Nat.zero_add] at this
    exact this
theorem r_s_rows {E : Prop} (hw : Region.wanted o (yielded ops a.tmps) = true) (x y : Operand) (ho : o.op = .store 103 x y) (g p : Nat) (hx : a.eval x = .pointer (some ⟨g, p, none⟩)) (v old : Value) (hy : a.eval y = v) (hv : ∃ b n c, v = .slice b n c) (hc : w.cell? ⟨g, p, none⟩ = some old) (hf : w.frozen? ⟨g, p, none⟩ = false) (h : K (a.put o.dst undef) (w.setCell ⟨g, p, none⟩ v)) :
    if Region.wanted o (yielded ops a.tmps) = true then Oper.wp Tryz.prog o a w K Q else E := by
  refine r_unit hw _ ?_ h
  obtain ⟨b, n, c, rfl⟩ := hv
  unfold execOp
  simp only [ho, hx, hy]
  go_simp
theorem i_rows : (Tryz.prog.info? 105).map (fun i => (i.zero, i.size, i.bytes)) = some (some (.agg #[.slice none 0 0, .slice none 0 0]), 2, 48) := by kernel_rfl
theorem r_one_rows {E : Prop} (hw : Region.wanted o (yielded ops a.tmps) = true) (x : Operand) (ho : o.op = .buildSlice 103 1 #[(0, x)]) (v : Value) (cs : List Value) (hx : a.eval x = v) (hcs : v.cells = cs.toArray) (hl : cs.length = 2)
    (h : K (a.put o.dst (.slice (some ⟨w.heap.size, 0, none⟩) 1 1)) (w.alloc (.cells cs.toArray 105))) : if Region.wanted o (yielded ops a.tmps) = true then Oper.wp Tryz.prog o a w K Q else E := by
  obtain ⟨i0, hi0, hz0, hz1, hz2⟩ := info_parts i_rows
  exact r_one hw 103 105 x ho v cs hx hcs i0 _ Tryz.underlying103 hi0 hz0 (by rw [hz1, hl]) (by omega) (by omega) h
theorem r_app_rows {E : Prop} (B : Nat) (hw : Region.wanted o (yielded ops a.tmps) = true) (s x : Operand) (ho : o.op = .call { callee := .builtin .append, args := #[s, x], argTypes := #[103, 103] }) (v : Value) (n : Nat) (xs : List Value) (hs : a.eval s = v) (hown : w.ownsRow B 105 2 v n xs) (b : Nat) (news : List Value)
    (hx : a.eval x = .slice (some ⟨b, 0, none⟩) 1 1) (hl : news.length = 2) (hb : w.rangeAt b 0 news) (h1 : ∀ u ∈ news, u.oneCell' = true) (hn : n ≤ 1073741824) (hB : B ≤ w.heap.size)
    (h : ∀ v' w', w'.ownsRow B 105 2 v' (n + 1) (xs ++ news) → w.grownBy w' v.ownBlock → (v'.ownBlock = v.ownBlock ∨ v'.ownBlock = some w.heap.size) → K (a.put o.dst v') w') : if Region.wanted o (yielded ops a.tmps) = true then Oper.wp Tryz.prog o a w K Q else E := by
  obtain ⟨i0, hi0, hz0, hz1, hz2⟩ := info_parts i_rows
  refine r_append hw s x 103 ho B 105 i0 _ 2 48 Tryz.underlying103 hi0 hz0 hz1 hz2 ?_ (by decide) v n xs hs hown ⟨b, 0, none⟩ 1 1 news hx (by omega) (fun j u hu => ?_) h1 (by unfold maxLen; omega) (by omega) hB h
  · kernel_rfl
  · rw [add_flat]
    have := hb j u hu
    rw [Nat.zero_add] at this
    exact this
end

section
variable {ops : Array Oper} {rest : List Oper} {o : Oper} {a : Act} {Q : Exit → Act → World → Prop} {w : World}
theorem p_app_hs (B : Nat) (hgd : o.guard = none) (s x : Operand) (ho : o.op = .call { callee := .builtin .append, args := #[s, x], argTypes := #[26, 26] }) (v : Value) (n : Nat) (xs : List Value) (hs : a.eval s = v) (hown : w.ownsRow B 31 32 v n xs) (b : Nat) (news : List Value)
    (hx : a.eval x = .slice (some ⟨b, 0, none⟩) 1 1) (hl : news.length = 32) (hb : w.rangeAt b 0 news) (h1 : ∀ u ∈ news, u.oneCell' = true) (hn : n ≤ 1073741824) (hB : B ≤ w.heap.size)
    (h : ∀ g cap w', w'.ownsRow B 31 32 (.slice (some ⟨g, 0, none⟩) (n + 1) cap) (n + 1) (xs ++ news) → w.grownBy w' v.ownBlock → (v.ownBlock = some g ∨ g = w.heap.size) → wpList Tryz.prog ops Q rest (a.put o.dst (.slice (some ⟨g, 0, none⟩) (n + 1) cap)) w') : wpList Tryz.prog ops Q (o :: rest) a w := by
  obtain ⟨i0, hi0, hz0, hz1, hz2⟩ := info_parts i_hs
  refine wpList_append_lies w hgd s x 26 ho B 31 i0 _ 32 32 Tryz.underlying26 hi0 hz0 hz1 hz2 ?_ (by decide) v n xs hs hown ⟨b, 0, none⟩ 1 1 news hx (by omega) (fun j u hu => ?_) h1 (by decide) (by unfold maxLen; omega) (by omega) hB _ rfl (fun g cap w' q1 q2 q3 _ => h g cap w' q1 q2 q3)
  · kernel_rfl
  · rw [add_flat]
    have := hb j u hu
    rw [Nat.zero_add] at this
    exact this
theorem p_app_lists (B : Nat) (hgd : o.guard = none) (s x : Operand) (ho : o.op = .call { callee := .builtin .append, args := #[s, x], argTypes := #[27, 27] }) (v : Value) (n : Nat) (xs : List Value) (hs : a.eval s = v) (hown : w.ownsRow B 33 1 v n xs) (b : Nat) (news : List Value)
    (hx : a.eval x = .slice (some ⟨b, 0, none⟩) 1 1) (hl : news.length = 1) (hb : w.rangeAt b 0 news) (h1 : ∀ u ∈ news, u.oneCell' = true) (hn : n ≤ 1073741824) (hB : B ≤ w.heap.size)
    (h : ∀ g cap w', w'.ownsRow B 33 1 (.slice (some ⟨g, 0, none⟩) (n + 1) cap) (n + 1) (xs ++ news) → w.grownBy w' v.ownBlock → (v.ownBlock = some g ∨ g = w.heap.size) → wpList Tryz.prog ops Q rest (a.put o.dst (.slice (some ⟨g, 0, none⟩) (n + 1) cap)) w') : wpList Tryz.prog ops Q (o :: rest) a w := by
  obtain ⟨i0, hi0, hz0, hz1, hz2⟩ := info_parts i_lists
  refine wpList_append_lies w hgd s x 27 ho B 33 i0 _ 1 24 Tryz.underlying27 hi0 hz0 hz1 hz2 ?_ (by decide) v n xs hs hown ⟨b, 0, none⟩ 1 1 news hx (by omega) (fun j u hu => ?_) h1 (by decide) (by unfold maxLen; omega) (by omega) hB _ rfl (fun g cap w' q1 q2 q3 _ => h g cap w' q1 q2 q3)
  · kernel_rfl
  · rw [add_flat]
    have := hb j u hu
    rw [Nat.zero_add] at this
    exact this
theorem p_app_tolds (B : Nat) (hgd : o.guard = none) (s x : Operand) (ho : o.op = .call { callee := .builtin .append, args := #[s, x], argTypes := #[25, 25] }) (v : Value) (n : Nat) (xs : List Value) (hs : a.eval s = v) (hown : w.ownsRow B 56 34 v n xs) (b : Nat) (news : List Value)
    (hx : a.eval x = .slice (some ⟨b, 0, none⟩) 1 1) (hl : news.length = 34) (hb : w.rangeAt b 0 news) (h1 : ∀ u ∈ news, u.oneCell' = true) (hn : n ≤ 1073741824) (hB : B ≤ w.heap.size)
    (h : ∀ g cap w', w'.ownsRow B 56 34 (.slice (some ⟨g, 0, none⟩) (n + 1) cap) (n + 1) (xs ++ news) → w.grownBy w' v.ownBlock → (v.ownBlock = some g ∨ g = w.heap.size) → wpList Tryz.prog ops Q rest (a.put o.dst (.slice (some ⟨g, 0, none⟩) (n + 1) cap)) w') : wpList Tryz.prog ops Q (o :: rest) a w := by
  obtain ⟨i0, hi0, hz0, hz1, hz2⟩ := info_parts i_tolds
  refine wpList_append_lies w hgd s x 25 ho B 56 i0 _ 34 64 Tryz.underlying25 hi0 hz0 hz1 hz2 ?_ (by decide) v n xs hs hown ⟨b, 0, none⟩ 1 1 news hx (by omega) (fun j u hu => ?_) h1 (by decide) (by unfold maxLen; omega) (by omega) hB _ rfl (fun g cap w' q1 q2 q3 _ => h g cap w' q1 q2 q3)
  · kernel_rfl
  · rw [add_flat]
    have := hb j u hu
    rw [Nat.zero_add] at this
    exact this
theorem p_app_blobs (B : Nat) (hgd : o.guard = none) (s x : Operand) (ho : o.op = .call { callee := .builtin .append, args := #[s, x], argTypes := #[43, 43] }) (v : Value) (n : Nat) (xs : List Value) (hs : a.eval s = v) (hown : w.ownsRow B 79 33 v n xs) (b : Nat) (news : List Value)
    (hx : a.eval x = .slice (some ⟨b, 0, none⟩) 1 1) (hl : news.length = 33) (hb : w.rangeAt b 0 news) (h1 : ∀ u ∈ news, u.oneCell' = true) (hn : n ≤ 1073741824) (hB : B ≤ w.heap.size)
    (h : ∀ g cap w', w'.ownsRow B 79 33 (.slice (some ⟨g, 0, none⟩) (n + 1) cap) (n + 1) (xs ++ news) → w.grownBy w' v.ownBlock → (v.ownBlock = some g ∨ g = w.heap.size) → wpList Tryz.prog ops Q rest (a.put o.dst (.slice (some ⟨g, 0, none⟩) (n + 1) cap)) w') : wpList Tryz.prog ops Q (o :: rest) a w := by
  obtain ⟨i0, hi0, hz0, hz1, hz2⟩ := info_parts i_blobs
  refine wpList_append_lies w hgd s x 43 ho B 79 i0 _ 33 56 Tryz.underlying43 hi0 hz0 hz1 hz2 ?_ (by decide) v n xs hs hown ⟨b, 0, none⟩ 1 1 news hx (by omega) (fun j u hu => ?_) h1 (by decide) (by unfold maxLen; omega) (by omega) hB _ rfl (fun g cap w' q1 q2 q3 _ => h g cap w' q1 q2 q3)
  · kernel_rfl
  · rw [add_flat]
    have := hb j u hu
    rw [Nat.zero_add] at this
    exact this
theorem p_app_entries (B : Nat) (hgd : o.guard = none) (s x : Operand) (ho : o.op = .call { callee := .builtin .append, args := #[s, x], argTypes := #[40, 40] }) (v : Value) (n : Nat) (xs : List Value) (hs : a.eval s = v) (hown : w.ownsRow B 47 2 v n xs) (b : Nat) (news : List Value)
    (hx : a.eval x = .slice (some ⟨b, 0, none⟩) 1 1) (hl : news.length = 2) (hb : w.rangeAt b 0 news) (h1 : ∀ u ∈ news, u.oneCell' = true) (hn : n ≤ 1073741824) (hB : B ≤ w.heap.size)
    (h : ∀ g cap w', w'.ownsRow B 47 2 (.slice (some ⟨g, 0, none⟩) (n + 1) cap) (n + 1) (xs ++ news) → w.grownBy w' v.ownBlock → (v.ownBlock = some g ∨ g = w.heap.size) → wpList Tryz.prog ops Q rest (a.put o.dst (.slice (some ⟨g, 0, none⟩) (n + 1) cap)) w') : wpList Tryz.prog ops Q (o :: rest) a w := by
  obtain ⟨i0, hi0, hz0, hz1, hz2⟩ := info_parts i_entries
  refine wpList_append_lies w hgd s x 40 ho B 47 i0 _ 2 48 Tryz.underlying40 hi0 hz0 hz1 hz2 ?_ (by decide) v n xs hs hown ⟨b, 0, none⟩ 1 1 news hx (by omega) (fun j u hu => ?_) h1 (by decide) (by unfold maxLen; omega) (by omega) hB _ rfl (fun g cap w' q1 q2 q3 _ => h g cap w' q1 q2 q3)
  · kernel_rfl
  · rw [add_flat]
    have := hb j u hu
    rw [Nat.zero_add] at this
    exact this
theorem p_app_rows (B : Nat) (hgd : o.guard = none) (s x : Operand) (ho : o.op = .call { callee := .builtin .append, args := #[s, x], argTypes := #[103, 103] }) (v : Value) (n : Nat) (xs : List Value) (hs : a.eval s = v) (hown : w.ownsRow B 105 2 v n xs) (b : Nat) (news : List Value)
    (hx : a.eval x = .slice (some ⟨b, 0, none⟩) 1 1) (hl : news.length = 2) (hb : w.rangeAt b 0 news) (h1 : ∀ u ∈ news, u.oneCell' = true) (hn : n ≤ 1073741824) (hB : B ≤ w.heap.size)
    (h : ∀ g cap w', w'.ownsRow B 105 2 (.slice (some ⟨g, 0, none⟩) (n + 1) cap) (n + 1) (xs ++ news) → w.grownBy w' v.ownBlock → (v.ownBlock = some g ∨ g = w.heap.size) → wpList Tryz.prog ops Q rest (a.put o.dst (.slice (some ⟨g, 0, none⟩) (n + 1) cap)) w') : wpList Tryz.prog ops Q (o :: rest) a w := by
  obtain ⟨i0, hi0, hz0, hz1, hz2⟩ := info_parts i_rows
  refine wpList_append_lies w hgd s x 103 ho B 105 i0 _ 2 48 Tryz.underlying103 hi0 hz0 hz1 hz2 ?_ (by decide) v n xs hs hown ⟨b, 0, none⟩ 1 1 news hx (by omega) (fun j u hu => ?_) h1 (by decide) (by unfold maxLen; omega) (by omega) hB _ rfl (fun g cap w' q1 q2 q3 _ => h g cap w' q1 q2 q3)
  · kernel_rfl
  · rw [add_flat]
    have := hb j u hu
    rw [Nat.zero_add] at this
    exact this
end
end Go.Proofs.YtepeolbbplodfaaGreatDoor.Z

/-
  More operations of a region that draws its order: slices, new bytes.
-/
namespace Go.Proofs.YtepeolbbplodfaaGreatDoor.Z
open Go.RowKit

section
variable {ops : Array Oper} {S : World → Prop} {o : Oper} {a : Act}
theorem y_slc (hw : Region.wanted o (yielded ops a.tmps) = true) (T : TypeId) (x : Operand) (lo hi mx : Option Operand) (ho : o.op = .slice T x lo hi mx) (v : Value) (hr : ∀ w, S w → (Instr.sliceAt T (a.eval x) (lo.map a.eval) (hi.map a.eval) (mx.map a.eval)).run Tryz.prog w = .ok v w) : YieldsIf Tryz.prog ops S o v a :=
  .inl ⟨hw, fun w hs => by
    have e := hr w hs
    unfold execOp
    simp only [ho, Sem.run_bind, e, Result.andThen_ok]
    rfl⟩
end
section
variable {ops : Array Oper} {o : Oper} {a : Act}
theorem r_build0 {Q : Exit → Act → World → Prop} {w : World} {K : Act → World → Prop} {E : Prop} (ho : o.op = .buildSlice 33 0 #[]) (hw : Region.wanted o (yielded ops a.tmps) = true)
    (h : K (a.put o.dst (.slice (some ⟨w.heap.size, 0, none⟩) 0 0)) (w.alloc (.cells #[] 5))) :
    if Region.wanted o (yielded ops a.tmps) = true then Oper.wp Tryz.prog o a w K Q else E := by
  rw [if_pos hw]
  have e : (execOp a.eval o).run Tryz.prog w = .ok (.value (.slice (some ⟨w.heap.size, 0, none⟩) 0 0)) (w.alloc (.cells #[] 5)) := by
    unfold execOp
    simp only [ho]
    go_simp
  unfold Oper.wp
  rw [e]
  exact h
end
end Go.Proofs.YtepeolbbplodfaaGreatDoor.Z
