import Derived.Test.YtpmdjopojcgpeaaGreatDoorSeq
import Derived.Test.YtpmdjopojcgpeaaGreatDoorDiq
import Derived.Great.BuildSlice
/-
  More operations of a region that draws its order: maps, lengths, comparisons; what writes.
-/
namespace Go.Proofs.YtpmdjopojcgpeaaGreatDoor
open Go.RowKit Go.Maps

section
variable {ops : Array Oper} {S : World → Prop} {o : Oper} {a : Act}
theorem y_look (hw : Region.wanted o (yielded ops a.tmps) = true) (T : TypeId) (m x : Operand) (ok : Bool) (ho : o.op = .lookup T m x ok) (vm vx v : Value) (hm : a.eval m = vm) (hx : a.eval x = vx) (hr : ∀ w, S w → (Instr.lookup T vm vx ok).run Tryz.prog w = .ok v w) : YieldsIf Tryz.prog ops S o v a :=
  .inl ⟨hw, fun w hs => by
    have e := hr w hs
    unfold execOp
    simp only [ho, hm, hx, Sem.run_bind, e, Result.andThen_ok]
    rfl⟩
theorem y_lenB (hw : Region.wanted o (yielded ops a.tmps) = true) (x : Operand) (ho : o.op = .call { callee := .builtin .len, args := #[x], argTypes := #[29] }) (p : Option Addr) (n c : Nat) (hx : a.eval x = .slice p n c) : YieldsIf Tryz.prog ops S o (.int .i64 (n : Int)) a :=
  .inl ⟨hw, fun w _ => by
    unfold execOp
    simp only [ho, resolve, List.map_toArray, List.map_cons, List.map_nil, hx]
    go_simp⟩
theorem y_lenM (hw : Region.wanted o (yielded ops a.tmps) = true) (x : Operand) (T : TypeId) (ho : o.op = .call { callee := .builtin .len, args := #[x], argTypes := #[T] }) (m n : Nat) (hx : a.eval x = .map (some m)) (hr : ∀ w, S w → ∀ ty, (Builtin.len_ #[T] ty #[.map (some m)]).run Tryz.prog w = .ok (.int .i64 (n : Int)) w) : YieldsIf Tryz.prog ops S o (.int .i64 (n : Int)) a :=
  .inl ⟨hw, fun w hs => by
    have e := hr w hs o.type
    unfold execOp
    simp only [ho, resolve, invoke, builtin, Sem.run_bind, Sem.run_pure, List.map_toArray, List.map_cons, List.map_nil, hx, Result.andThen_ok, e]⟩
theorem y_lssIr (hw : Region.wanted o (yielded ops a.tmps) = true) (x y : Operand) (ho : o.op = .binOp .lss 3 x y 3) (d d' : Int) (hx : a.eval x = .int .i64 d) (hy : a.eval y = .int .i64 d') (r : Bool) (hr : decide (d < d') = r) : YieldsIf Tryz.prog ops S o (.bool r) a :=
  .inl ⟨hw, fun w _ => by
    unfold execOp
    simp only [ho, hx, hy]
    subst hr
    go_simp⟩
theorem y_leqIr (hw : Region.wanted o (yielded ops a.tmps) = true) (x y : Operand) (ho : o.op = .binOp .leq 3 x y 3) (d d' : Int) (hx : a.eval x = .int .i64 d) (hy : a.eval y = .int .i64 d') (r : Bool) (hr : decide (d ≤ d') = r) : YieldsIf Tryz.prog ops S o (.bool r) a :=
  .inl ⟨hw, fun w _ => by
    unfold execOp
    simp only [ho, hx, hy]
    subst hr
    go_simp⟩
theorem y_eqlEr (hw : Region.wanted o (yielded ops a.tmps) = true) (x y : Operand) (ho : o.op = .binOp .eql 23 x y 23) (d d' : Int) (hx : a.eval x = .int .i64 d) (hy : a.eval y = .int .i64 d') (r : Bool) (hr : (d == d') = r) : YieldsIf Tryz.prog ops S o (.bool r) a :=
  .inl ⟨hw, fun w _ => by
    unfold execOp
    simp only [ho, hx, hy]
    subst hr
    go_simp⟩
theorem y_addIr (hw : Region.wanted o (yielded ops a.tmps) = true) (x y : Operand) (ho : o.op = .binOp .add 3 x y 3) (d d' r : Int) (hx : a.eval x = .int .i64 d) (hy : a.eval y = .int .i64 d') (hr : IntKind.i64.wrap (d + d') = r) : YieldsIf Tryz.prog ops S o (.int .i64 r) a :=
  .inl ⟨hw, fun w _ => by
    unfold execOp
    simp only [ho, hx, hy]
    subst hr
    go_simp⟩
end

section
variable {ops : Array Oper} {o : Oper} {a : Act} {Q : Exit → Act → World → Prop} {w : World} {K : Act → World → Prop} {E : Prop}
/-- an operation that yields a value, and turns the world -/
theorem r_val (hw : Region.wanted o (yielded ops a.tmps) = true) (v : Value) (w' : World) (hr : (execOp a.eval o).run Tryz.prog w = .ok (.value v) w') (h : K (a.put o.dst v) w') : if Region.wanted o (yielded ops a.tmps) = true then Oper.wp Tryz.prog o a w K Q else E := by
  rw [if_pos hw]
  unfold Oper.wp
  rw [hr]
  exact h
theorem r_unit (hw : Region.wanted o (yielded ops a.tmps) = true) (w' : World) (hr : (execOp a.eval o).run Tryz.prog w = .ok .skip w') (h : K (a.put o.dst undef) w') : if Region.wanted o (yielded ops a.tmps) = true then Oper.wp Tryz.prog o a w K Q else E := by
  rw [if_pos hw]
  unfold Oper.wp
  rw [hr]
  exact h
theorem r_entry (hw : Region.wanted o (yielded ops a.tmps) = true) (T : TypeId) (m x : Operand) (ho : o.op = .mapEntry T m x) (vm vx v : Value) (w' : World) (hm : a.eval m = vm) (hx : a.eval x = vx) (hr : (Instr.mapEntry T vm vx).run Tryz.prog w = .ok v w') (h : K (a.put o.dst v) w') : if Region.wanted o (yielded ops a.tmps) = true then Oper.wp Tryz.prog o a w K Q else E := by
  refine r_val hw v w' ?_ h
  unfold execOp
  simp only [ho, hm, hx, Sem.run_bind, hr, Result.andThen_ok]
  rfl
theorem r_estore (hw : Region.wanted o (yielded ops a.tmps) = true) (T : TypeId) (m x y : Operand) (ho : o.op = .entryStore T m x y) (vm vx vy : Value) (w' : World) (hm : a.eval m = vm) (hx : a.eval x = vx) (hy : a.eval y = vy) (hr : (Instr.entryStore T vm vx vy).run Tryz.prog w = .ok () w') (h : K (a.put o.dst undef) w') : if Region.wanted o (yielded ops a.tmps) = true then Oper.wp Tryz.prog o a w K Q else E := by
  refine r_unit hw w' ?_ h
  unfold execOp
  simp only [ho, hm, hx, hy, Sem.run_bind, hr, Result.andThen_ok]
  rfl
theorem r_update (hw : Region.wanted o (yielded ops a.tmps) = true) (T : TypeId) (m x y : Operand) (ho : o.op = .mapUpdate T m x y) (vm vx vy : Value) (w' : World) (hm : a.eval m = vm) (hx : a.eval x = vx) (hy : a.eval y = vy) (hr : (Instr.mapUpdate T vm vx vy).run Tryz.prog w = .ok () w') (h : K (a.put o.dst undef) w') : if Region.wanted o (yielded ops a.tmps) = true then Oper.wp Tryz.prog o a w K Q else E := by
  refine r_unit hw w' ?_ h
  unfold execOp
  simp only [ho, hm, hx, hy, Sem.run_bind, hr, Result.andThen_ok]
  rfl
theorem fill_one {n : Nat} {v : Value} {cs : List Value} (base : Array Value) (hb : base.size = n) (hc : cs.length = n) (hv : v.cells = cs.toArray) : Instr.fill (fun i => some (i * n, n)) base [(0, v)] = some cs.toArray := by
  rw [fill_step (off := 0) (size := n) (by simp) (by rw [hv, List.size_toArray, hc]) (by omega), hv]
  have e := fold_list 0 [] base.toList cs [] rfl (by rw [hc, Array.length_toList, hb])
  simp only [List.nil_append, List.append_nil, Array.toArray_toList] at e
  rw [show (fun (cs : Array Value) (x : Value × Nat) => match x with | (c, j) => cs.setIfInBounds (0 + j) c) = (fun (cs : Array Value) (p : Value × Nat) => cs.setIfInBounds (0 + p.2) p.1) from rfl, e]
  rfl
/-- a list of one element is made -/
theorem r_one (hw : Region.wanted o (yielded ops a.tmps) = true) (t e : TypeId) (x : Operand) (ho : o.op = .buildSlice t 1 #[(0, x)]) (v : Value) (cs : List Value) (hx : a.eval x = v) (hcs : v.cells = cs.toArray)
    (ie : TypeInfo) (z : Value) (ht : Tryz.prog.underlying t = some (.slice e)) (hi : Tryz.prog.info? e = some ie) (hz : ie.zero = some z) (hsz : ie.size = cs.length) (h0 : 0 < cs.length) (h1 : cs.length ≤ 64)
    (h : K (a.put o.dst (.slice (some ⟨w.heap.size, 0, none⟩) 1 1)) (w.alloc (.cells cs.toArray e))) : if Region.wanted o (yielded ops a.tmps) = true then Oper.wp Tryz.prog o a w K Q else E := by
  rw [if_pos hw]
  refine wp_buildSlice t e 1 #[(0, x)] ho cs.toArray ie z ht hi hz (by rw [hsz]; omega) (by rw [hsz]; omega) ?_ h
  simp only [List.map_toArray, List.map_cons, List.map_nil, hx]
  refine fill_one _ ?_ hsz.symm hcs
  rw [Array.size_map, Array.size_range]
  omega
/-- a list grows -/
theorem r_append (hw : Region.wanted o (yielded ops a.tmps) = true) (s x : Operand) (t : TypeId) (ho : o.op = .call { callee := .builtin .append, args := #[s, x], argTypes := #[t, t] })
    (base : Nat) (e : TypeId) (i : TypeInfo) (z : Value) (size bytes : Nat) (ht : Tryz.prog.underlying t = some (.slice e)) (hi : Tryz.prog.info? e = some i) (hz : i.zero = some z)
    (hsize : i.size = size) (hby : i.bytes = bytes) (hzs : z.cells.size = size) (hsz : 0 < size)
    (v : Value) (n : Nat) (xs : List Value) (hs : a.eval s = v) (hown : w.ownsRow base e size v n xs)
    (ad : Addr) (m c : Nat) (news : List Value) (hx : a.eval x = .slice (some ad) m c) (hl : news.length = m * size) (hnews : ∀ j u, news[j]? = some u → w.cell? (ad.add j) = some u) (h1 : ∀ u ∈ news, u.oneCell' = true)
    (h63 : n + m ≤ maxLen) (hbytes : (n + m) * bytes ≤ 140737488355328) (hbase : base ≤ w.heap.size)
    (h : ∀ v' w', w'.ownsRow base e size v' (n + m) (xs ++ news) → w.grownBy w' v.ownBlock → (v'.ownBlock = v.ownBlock ∨ v'.ownBlock = some w.heap.size) → K (a.put o.dst v') w') :
    if Region.wanted o (yielded ops a.tmps) = true then Oper.wp Tryz.prog o a w K Q else E := by
  obtain ⟨v', w', hr, h2, h3, h4, h5⟩ := run_append_own_at (P := Tryz.prog) w base t o.type e i z size bytes ht hi hz hsize hby hzs hsz v n xs hown ad m c news hl hnews h1 h63 hbytes hbase
  refine r_val hw v' w' ?_ (h v' w' h2 h3 h5)
  unfold execOp
  simp only [ho, resolve, invoke, builtin, Sem.run_bind, Sem.run_pure, Result.andThen_ok, List.map_toArray, List.map_cons, List.map_nil, hs, hx, hr]
theorem r_call2 (f : Nat) (x y : Operand) (ts : Array TypeId) (ho : o.op = .call { callee := .value (.func f), args := #[x, y], argTypes := ts }) (hw : Region.wanted o (yielded ops a.tmps) = true) (u v : Value) (hx : a.eval x = u) (hy : a.eval y = v)
    (eg : ∀ args w, (callFunc f args).run Tryz.prog w = .ok (.enter f args) w) (hc : Calls Tryz.prog f #[u, v] w fun e w' => ∃ z, e = .returned z ∧ K (a.put o.dst z) w') :
    if Region.wanted o (yielded ops a.tmps) = true then Oper.wp Tryz.prog o a w K Q else E := by
  rw [if_pos hw]
  have e : (execOp a.eval o).run Tryz.prog w = .ok (.enter f #[u, v]) w := by
    unfold execOp
    have := eg #[u, v] w
    simp only [ho, resolve, List.map_toArray, List.map_cons, List.map_nil, hx, hy]
    go_simp
  unfold Oper.wp
  rw [e, Oper.upon_enter]
  refine hc.mono ?_
  rintro e w' ⟨z, rfl, hz⟩
  exact hz
end
end Go.Proofs.YtpmdjopojcgpeaaGreatDoor

/-
  What is read at one place, and what is stored into one cell, in a region that draws its order (gen_yu.py).
-/
namespace Go.Proofs.YtpmdjopojcgpeaaGreatDoor
open Go.RowKit Go.Maps

section
variable {ops : Array Oper} {o : Oper} {a : Act} {Q : Exit → Act → World → Prop} {w : World} {K : Act → World → Prop}
/-- what yields in this world -/
theorem r_yield {v : Value} (hy : YieldsIf Tryz.prog ops (fun u => u = w) o v a) (h : K (a.put o.dst v) w) : if Region.wanted o (yielded ops a.tmps) = true then Oper.wp Tryz.prog o a w K Q else K (a.put o.dst undef) w := by
  rcases hy with ⟨hw, hr⟩ | ⟨hw, rfl⟩
  · rw [if_pos hw]
    unfold Oper.wp
    rw [hr w rfl]
    exact h
  · rw [if_neg (by rw [hw]; decide)]
    exact h
theorem r_s_byt {E : Prop} (hw : Region.wanted o (yielded ops a.tmps) = true) (x y : Operand) (ho : o.op = .store 29 x y) (g p : Nat) (hx : a.eval x = .pointer (some ⟨g, p, none⟩)) (v old : Value) (hy : a.eval y = v) (hv : ∃ b n c, v = .slice b n c) (hc : w.cell? ⟨g, p, none⟩ = some old) (hf : w.frozen? ⟨g, p, none⟩ = false) (h : K (a.put o.dst undef) (w.setCell ⟨g, p, none⟩ v)) :
    if Region.wanted o (yielded ops a.tmps) = true then Oper.wp Tryz.prog o a w K Q else E := by
  refine r_unit hw _ ?_ h
  obtain ⟨b, n, c, rfl⟩ := hv
  unfold execOp
  simp only [ho, hx, hy]
  go_simp
theorem r_s_hs {E : Prop} (hw : Region.wanted o (yielded ops a.tmps) = true) (x y : Operand) (ho : o.op = .store 42 x y) (g p : Nat) (hx : a.eval x = .pointer (some ⟨g, p, none⟩)) (v old : Value) (hy : a.eval y = v) (hv : ∃ b n c, v = .slice b n c) (hc : w.cell? ⟨g, p, none⟩ = some old) (hf : w.frozen? ⟨g, p, none⟩ = false) (h : K (a.put o.dst undef) (w.setCell ⟨g, p, none⟩ v)) :
    if Region.wanted o (yielded ops a.tmps) = true then Oper.wp Tryz.prog o a w K Q else E := by
  refine r_unit hw _ ?_ h
  obtain ⟨b, n, c, rfl⟩ := hv
  unfold execOp
  simp only [ho, hx, hy]
  go_simp
theorem r_s_acc {E : Prop} (hw : Region.wanted o (yielded ops a.tmps) = true) (x y : Operand) (ho : o.op = .store 44 x y) (g p : Nat) (hx : a.eval x = .pointer (some ⟨g, p, none⟩)) (v old : Value) (hy : a.eval y = v) (hv : ∃ b n c, v = .slice b n c) (hc : w.cell? ⟨g, p, none⟩ = some old) (hf : w.frozen? ⟨g, p, none⟩ = false) (h : K (a.put o.dst undef) (w.setCell ⟨g, p, none⟩ v)) :
    if Region.wanted o (yielded ops a.tmps) = true then Oper.wp Tryz.prog o a w K Q else E := by
  refine r_unit hw _ ?_ h
  obtain ⟨b, n, c, rfl⟩ := hv
  unfold execOp
  simp only [ho, hx, hy]
  go_simp
theorem r_s_lists {E : Prop} (hw : Region.wanted o (yielded ops a.tmps) = true) (x y : Operand) (ho : o.op = .store 62 x y) (g p : Nat) (hx : a.eval x = .pointer (some ⟨g, p, none⟩)) (v old : Value) (hy : a.eval y = v) (hv : ∃ b n c, v = .slice b n c) (hc : w.cell? ⟨g, p, none⟩ = some old) (hf : w.frozen? ⟨g, p, none⟩ = false) (h : K (a.put o.dst undef) (w.setCell ⟨g, p, none⟩ v)) :
    if Region.wanted o (yielded ops a.tmps) = true then Oper.wp Tryz.prog o a w K Q else E := by
  refine r_unit hw _ ?_ h
  obtain ⟨b, n, c, rfl⟩ := hv
  unfold execOp
  simp only [ho, hx, hy]
  go_simp
end
/-! ### rows of one more -/
theorem info60 : (Tryz.prog.info? 29).map (fun i => (i.zero, i.size, i.bytes)) = some (some nilS, 1, 24) := by kernel_rfl
theorem info93 : (Tryz.prog.info? 154).map (fun i => (i.zero, i.size, i.bytes)) = some (some (.agg #[.int .i64 0, nilS, .bool false]), 3, 40) := by kernel_rfl
theorem info33 : (Tryz.prog.info? 38).map (fun i => (i.zero, i.size, i.bytes)) = some (some (.agg (bv z32).toArray), 32, 32) := by kernel_rfl
section
variable {ops : Array Oper} {o : Oper} {a : Act} {Q : Exit → Act → World → Prop} {w : World} {K : Act → World → Prop} {E : Prop}
theorem r_one_lists (hw : Region.wanted o (yielded ops a.tmps) = true) (x : Operand) (ho : o.op = .buildSlice 62 1 #[(0, x)]) (v : Value) (cs : List Value) (hx : a.eval x = v) (hcs : v.cells = cs.toArray) (hl : cs.length = 1)
    (h : K (a.put o.dst (.slice (some ⟨w.heap.size, 0, none⟩) 1 1)) (w.alloc (.cells cs.toArray 29))) : if Region.wanted o (yielded ops a.tmps) = true then Oper.wp Tryz.prog o a w K Q else E := by
  obtain ⟨i0, hi0, hz0, hz1, hz2⟩ := info_parts info60
  exact r_one hw 62 29 x ho v cs hx hcs i0 _ Tryz.underlying62 hi0 hz0 (by rw [hz1, hl]) (by omega) (by omega) h
theorem r_app_lists (hw : Region.wanted o (yielded ops a.tmps) = true) (s x : Operand) (ho : o.op = .call { callee := .builtin .append, args := #[s, x], argTypes := #[62, 62] }) (v : Value) (n : Nat) (xs : List Value) (hs : a.eval s = v) (hown : w.ownsRow 0 29 1 v n xs) (b : Nat) (news : List Value)
    (hx : a.eval x = .slice (some ⟨b, 0, none⟩) 1 1) (hl : news.length = 1) (hb : w.rangeAt b 0 news) (h1 : ∀ u ∈ news, u.oneCell' = true) (hn : n ≤ 1073741824)
    (h : ∀ v' w', w'.ownsRow 0 29 1 v' (n + 1) (xs ++ news) → w.grownBy w' v.ownBlock → (v'.ownBlock = v.ownBlock ∨ v'.ownBlock = some w.heap.size) → K (a.put o.dst v') w') : if Region.wanted o (yielded ops a.tmps) = true then Oper.wp Tryz.prog o a w K Q else E := by
  obtain ⟨i0, hi0, hz0, hz1, hz2⟩ := info_parts info60
  refine r_append hw s x 62 ho 0 29 i0 _ 1 24 Tryz.underlying62 hi0 hz0 hz1 hz2 ?_ (by decide) v n xs hs hown ⟨b, 0, none⟩ 1 1 news hx (by omega) (fun j u hu => ?_) h1 (by unfold maxLen; omega) (by omega) (Nat.zero_le _) h
  · rfl
  · rw [add_flat]
    have := hb j u hu
    rw [Nat.zero_add] at this
    exact this
theorem r_one_stays (hw : Region.wanted o (yielded ops a.tmps) = true) (x : Operand) (ho : o.op = .buildSlice 155 1 #[(0, x)]) (v : Value) (cs : List Value) (hx : a.eval x = v) (hcs : v.cells = cs.toArray) (hl : cs.length = 3)
    (h : K (a.put o.dst (.slice (some ⟨w.heap.size, 0, none⟩) 1 1)) (w.alloc (.cells cs.toArray 154))) : if Region.wanted o (yielded ops a.tmps) = true then Oper.wp Tryz.prog o a w K Q else E := by
  obtain ⟨i0, hi0, hz0, hz1, hz2⟩ := info_parts info93
  exact r_one hw 155 154 x ho v cs hx hcs i0 _ Tryz.underlying155 hi0 hz0 (by rw [hz1, hl]) (by omega) (by omega) h
theorem r_app_stays (hw : Region.wanted o (yielded ops a.tmps) = true) (s x : Operand) (ho : o.op = .call { callee := .builtin .append, args := #[s, x], argTypes := #[155, 155] }) (v : Value) (n : Nat) (xs : List Value) (hs : a.eval s = v) (hown : w.ownsRow 0 154 3 v n xs) (b : Nat) (news : List Value)
    (hx : a.eval x = .slice (some ⟨b, 0, none⟩) 1 1) (hl : news.length = 3) (hb : w.rangeAt b 0 news) (h1 : ∀ u ∈ news, u.oneCell' = true) (hn : n ≤ 1073741824)
    (h : ∀ v' w', w'.ownsRow 0 154 3 v' (n + 1) (xs ++ news) → w.grownBy w' v.ownBlock → (v'.ownBlock = v.ownBlock ∨ v'.ownBlock = some w.heap.size) → K (a.put o.dst v') w') : if Region.wanted o (yielded ops a.tmps) = true then Oper.wp Tryz.prog o a w K Q else E := by
  obtain ⟨i0, hi0, hz0, hz1, hz2⟩ := info_parts info93
  refine r_append hw s x 155 ho 0 154 i0 _ 3 40 Tryz.underlying155 hi0 hz0 hz1 hz2 ?_ (by decide) v n xs hs hown ⟨b, 0, none⟩ 1 1 news hx (by omega) (fun j u hu => ?_) h1 (by unfold maxLen; omega) (by omega) (Nat.zero_le _) h
  · rfl
  · rw [add_flat]
    have := hb j u hu
    rw [Nat.zero_add] at this
    exact this
theorem r_one_hs (hw : Region.wanted o (yielded ops a.tmps) = true) (x : Operand) (ho : o.op = .buildSlice 42 1 #[(0, x)]) (v : Value) (cs : List Value) (hx : a.eval x = v) (hcs : v.cells = cs.toArray) (hl : cs.length = 32)
    (h : K (a.put o.dst (.slice (some ⟨w.heap.size, 0, none⟩) 1 1)) (w.alloc (.cells cs.toArray 38))) : if Region.wanted o (yielded ops a.tmps) = true then Oper.wp Tryz.prog o a w K Q else E := by
  obtain ⟨i0, hi0, hz0, hz1, hz2⟩ := info_parts info33
  exact r_one hw 42 38 x ho v cs hx hcs i0 _ Tryz.underlying42 hi0 hz0 (by rw [hz1, hl]) (by omega) (by omega) h
theorem r_app_hs (hw : Region.wanted o (yielded ops a.tmps) = true) (s x : Operand) (ho : o.op = .call { callee := .builtin .append, args := #[s, x], argTypes := #[42, 42] }) (v : Value) (n : Nat) (xs : List Value) (hs : a.eval s = v) (hown : w.ownsRow 0 38 32 v n xs) (b : Nat) (news : List Value)
    (hx : a.eval x = .slice (some ⟨b, 0, none⟩) 1 1) (hl : news.length = 32) (hb : w.rangeAt b 0 news) (h1 : ∀ u ∈ news, u.oneCell' = true) (hn : n ≤ 1073741824)
    (h : ∀ v' w', w'.ownsRow 0 38 32 v' (n + 1) (xs ++ news) → w.grownBy w' v.ownBlock → (v'.ownBlock = v.ownBlock ∨ v'.ownBlock = some w.heap.size) → K (a.put o.dst v') w') : if Region.wanted o (yielded ops a.tmps) = true then Oper.wp Tryz.prog o a w K Q else E := by
  obtain ⟨i0, hi0, hz0, hz1, hz2⟩ := info_parts info33
  refine r_append hw s x 42 ho 0 38 i0 _ 32 32 Tryz.underlying42 hi0 hz0 hz1 hz2 ?_ (by decide) v n xs hs hown ⟨b, 0, none⟩ 1 1 news hx (by omega) (fun j u hu => ?_) h1 (by unfold maxLen; omega) (by omega) (Nat.zero_le _) h
  · exact hA_size isH_z32
  · rw [add_flat]
    have := hb j u hu
    rw [Nat.zero_add] at this
    exact this
theorem r_one_acc (hw : Region.wanted o (yielded ops a.tmps) = true) (x : Operand) (ho : o.op = .buildSlice 44 1 #[(0, x)]) (v : Value) (cs : List Value) (hx : a.eval x = v) (hcs : v.cells = cs.toArray) (hl : cs.length = 3)
    (h : K (a.put o.dst (.slice (some ⟨w.heap.size, 0, none⟩) 1 1)) (w.alloc (.cells cs.toArray 120))) : if Region.wanted o (yielded ops a.tmps) = true then Oper.wp Tryz.prog o a w K Q else E := by
  obtain ⟨i0, hi0, hz0, hz1, hz2⟩ := info_parts info82
  exact r_one hw 44 120 x ho v cs hx hcs i0 _ Tryz.underlying44 hi0 hz0 (by rw [hz1, hl]) (by omega) (by omega) h
theorem r_app_acc (hw : Region.wanted o (yielded ops a.tmps) = true) (s x : Operand) (ho : o.op = .call { callee := .builtin .append, args := #[s, x], argTypes := #[44, 44] }) (v : Value) (n : Nat) (xs : List Value) (hs : a.eval s = v) (hown : w.ownsRow 0 120 3 v n xs) (b : Nat) (news : List Value)
    (hx : a.eval x = .slice (some ⟨b, 0, none⟩) 1 1) (hl : news.length = 3) (hb : w.rangeAt b 0 news) (h1 : ∀ u ∈ news, u.oneCell' = true) (hn : n ≤ 1073741824)
    (h : ∀ v' w', w'.ownsRow 0 120 3 v' (n + 1) (xs ++ news) → w.grownBy w' v.ownBlock → (v'.ownBlock = v.ownBlock ∨ v'.ownBlock = some w.heap.size) → K (a.put o.dst v') w') : if Region.wanted o (yielded ops a.tmps) = true then Oper.wp Tryz.prog o a w K Q else E := by
  obtain ⟨i0, hi0, hz0, hz1, hz2⟩ := info_parts info82
  refine r_append hw s x 44 ho 0 120 i0 _ 3 24 Tryz.underlying44 hi0 hz0 hz1 hz2 ?_ (by decide) v n xs hs hown ⟨b, 0, none⟩ 1 1 news hx (by omega) (fun j u hu => ?_) h1 (by unfold maxLen; omega) (by omega) (Nat.zero_le _) h
  · rfl
  · rw [add_flat]
    have := hb j u hu
    rw [Nat.zero_add] at this
    exact this
end
end Go.Proofs.YtpmdjopojcgpeaaGreatDoor
