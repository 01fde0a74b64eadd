import Derived.Test.YthndmkhdcgdloaaGreatDoorNbq
import Derived.Deep.MidRow
import Derived.Deep.Upon
import Derived.DeepKeys
/-
  Hashes of zeros as some list of cells; loads, stores and builds of whole arrays (out of media's Sr).
-/
namespace Go.Proofs.YthndmkhdcgdloaaGreatDoor
open Go.RowKit Go.Maps
theorem rng_new (w : World) (cs : List Value) (t : TypeId) : (w.alloc (.cells cs.toArray t)).rangeAt w.heap.size 0 cs := fun j v hv => by
  rw [cell_of_row _ _ _ _ _ _ (heap_alloc_new w _), Nat.zero_add]
  simpa using hv
theorem rng_row {w : World} {b : Nat} {cs : List Value} {t : TypeId} {fr : Nat × Nat} (h : w.heap[b]? = some (.cells cs.toArray t fr)) : w.rangeAt b 0 cs := fun j v hv => by
  rw [cell_of_row _ _ _ _ _ _ h, Nat.zero_add]
  simpa using hv
/-! ### a whole struct loaded in a guarded place -/
section
variable {ops : Array Oper} {rest : List Oper} {op : Oper} {a : Act} {w : World} {Q : Exit → Act → World → Prop}
theorem wpList_g {P : Program} (hw : Region.wanted op (yielded ops a.tmps) = true) (h : op.wp P a w (wpList P ops Q rest) Q) : wpList P ops Q (op :: rest) a w := by
  unfold wpList
  rw [if_pos hw]
  exact Or.inl h
theorem wpList_load_mid_g {P : Program} (hw : Region.wanted op (yielded ops a.tmps) = true) (ty : TypeId) (x : Operand) (ho : op.op = .load ty x)
    (b o : Nat) (hx : a.eval x = .pointer (some ⟨b, o, none⟩)) (cs : List Value) (d : TypeDesc) (hc : w.rangeAt b o cs)
    (hu : P.underlying ty = some d) (hd : d.isRow = true) (hi : (P.info? ty).map (·.size) = some cs.length)
    (h : wpList P ops Q rest (a.put op.dst (.agg cs.toArray)) w) : wpList P ops Q (op :: rest) a w :=
  wpList_g hw (wp_load_mid ty x ho b o hx cs d hc hu hd hi h)
end
/-! ### stores, builds -/
section
variable {ops : Array Oper} {rest : List Oper} {op : Oper} {a : Act} {w : World} {Q : Exit → Act → World → Prop}
/-- a struct stored into a new variable -/
theorem wpList_stN (hw : Region.wanted op (yielded ops a.tmps) = true) (T : TypeId) (x y : Operand) (ho : op.op = .store T x y) (cs old : List Value) (hi : (Tryz.prog.info? T).map (·.size) = some cs.length) (hl : cs.length = old.length) (h1 : cs.toArray.all (·.oneCell') = true)
    (hx : a.eval x = .pointer (some ⟨w.heap.size, 0, none⟩)) (hy : a.eval y = .agg cs.toArray) (h : wpList Tryz.prog ops Q rest (a.put op.dst undef) (w.alloc (.cells cs.toArray T))) :
    wpList Tryz.prog ops Q (op :: rest) a (w.alloc (.cells old.toArray T)) := by
  refine wpList_g hw (wp_store_row T x y ho w.heap.size cs.toArray hx hy T old.toArray (heap_alloc_new _ _) (by rw [List.size_toArray]; exact hi) (by rw [List.size_toArray, List.size_toArray, hl]) h1 ?_)
  rw [World.setRow_alloc_new]
  exact h
/-- a struct stored into a variable -/
theorem wpList_stB (hw : Region.wanted op (yielded ops a.tmps) = true) (T : TypeId) (x y : Operand) (ho : op.op = .store T x y) (b : Nat) (cs old : List Value) (hi : (Tryz.prog.info? T).map (·.size) = some cs.length) (hl : cs.length = old.length) (h1 : cs.toArray.all (·.oneCell') = true)
    (hb : w.heap[b]? = some (.cells old.toArray T (0, 0))) (hx : a.eval x = .pointer (some ⟨b, 0, none⟩)) (hy : a.eval y = .agg cs.toArray) (h : wpList Tryz.prog ops Q rest (a.put op.dst undef) (w.setRow b cs.toArray)) :
    wpList Tryz.prog ops Q (op :: rest) a w :=
  wpList_g hw (wp_store_row T x y ho b cs.toArray hx hy T old.toArray hb (by rw [List.size_toArray]; exact hi) (by rw [List.size_toArray, List.size_toArray, hl]) h1 h)
theorem wpList_bd (hw : Region.wanted op (yielded ops a.tmps) = true) (t : TypeId) (parts : Array (Nat × Operand)) (ho : op.op = .build t parts) (cells : Array Value)
    (hb : Tryz.prog.built t (parts.map fun (i, x) => (i, a.eval x)).toList = some cells) (h : wpList Tryz.prog ops Q rest (a.put op.dst (.agg cells)) w) : wpList Tryz.prog ops Q (op :: rest) a w := by
  refine wpList_g hw ?_
  unfold Oper.wp execOp
  simp only [ho, Sem.run_bind, run_build w t _ cells hb, Result.andThen_ok]
  exact h
theorem wpList_bdL (hw : Region.wanted op (yielded ops a.tmps) = true) (t : TypeId) (L : List (Nat × Operand)) (ho : op.op = .build t L.toArray) (cells : Array Value)
    (hb : Tryz.prog.built t (L.map fun (i, x) => (i, a.eval x)) = some cells) (h : wpList Tryz.prog ops Q rest (a.put op.dst (.agg cells)) w) : wpList Tryz.prog ops Q (op :: rest) a w :=
  wpList_bd hw t _ ho cells (by simp only [List.map_toArray]; exact hb) h
end
theorem iH : (Tryz.prog.info? 24).map (·.size) = some 32 := by kernel_rfl
theorem zeroH : (Tryz.prog.info? 24).map (fun i => (i.zero, i.size)) = some (some (.agg z32v.toArray), 32) := by kernel_rfl
theorem builtH : Tryz.prog.built 24 [] = some z32v.toArray := by kernel_rfl
/-- a hash, as a list of cells -/
structure Hc (u : List Value) : Prop where
  len : u.length = 32
  one : u.toArray.all (·.oneCell') = true
theorem blk_frz {w : World} {g : Nat} {cs : Array Value} {t : TypeId} (h : w.heap[g]? = some (.cells cs t (0, 0))) (i : Nat) : w.frozen? ⟨g, i, none⟩ = false := by
  simp [World.frozen?, h]
/-- the zero hash, as some list of cells -/
theorem zed : ∃ zz : List Value, Hc zz ∧ (∀ w, (zeroValue 24).run Tryz.prog w = .ok (.agg zz.toArray) w) ∧ Tryz.prog.built 24 [] = some zz.toArray :=
  ⟨z32v, ⟨z32v_len, by kernel_rfl⟩, (zero_of_info zeroH).1, builtH⟩
theorem resCC {fn : Func} {p q : Tmp} {ty tz : TypeId} (h : fn.results = #[.cell p ty, .cell q tz]) (tmps : Array Value) (w : World) (g k : Nat) (v u : Value)
    (hp : tmps.getD p undef = .pointer (some ⟨g, 0, none⟩)) (hq : tmps.getD q undef = .pointer (some ⟨k, 0, none⟩)) (hl : (loadVar ty ⟨g, 0, none⟩).run Tryz.prog w = .ok v w) (hk : (loadVar tz ⟨k, 0, none⟩).run Tryz.prog w = .ok u w) :
    (results fn tmps).run Tryz.prog w = .ok (.tuple #[v, u]) w := by
  have hp' : tmps[p]?.getD undef = .pointer (some ⟨g, 0, none⟩) := by simpa using hp
  have hq' : tmps[q]?.getD undef = .pointer (some ⟨k, 0, none⟩) := by simpa using hq
  simp [results, h, hp', hq', asAddr, hl, hk]
theorem resCT {fn : Func} {p t : Tmp} {ty : TypeId} (h : fn.results = #[.cell p ty, .tmp t]) (tmps : Array Value) (w : World) (g : Nat) (v u : Value)
    (hp : tmps.getD p undef = .pointer (some ⟨g, 0, none⟩)) (ht : tmps.getD t undef = u) (hl : (loadVar ty ⟨g, 0, none⟩).run Tryz.prog w = .ok v w) :
    (results fn tmps).run Tryz.prog w = .ok (.tuple #[v, u]) w := by
  have hp' : tmps[p]?.getD undef = .pointer (some ⟨g, 0, none⟩) := by simpa using hp
  have ht' : tmps[t]?.getD undef = u := by simpa using ht
  simp [results, h, hp', ht', asAddr, hl]
theorem one_setCell {w : World} {b : Nat} {v u : Value} {t : TypeId} (h : w.heap[b]? = some (.cells #[v] t (0, 0))) : (w.setCell ⟨b, 0, none⟩ u).heap[b]? = some (.cells #[u] t (0, 0)) := by
  have := heap_setCell_same w b 0 #[v] t u h
  simpa using this
theorem ldE {w : World} {g : Nat} {n : Int} (h : w.cell? ⟨g, 0, none⟩ = some (.int .i64 n)) : (loadVar 25 ⟨g, 0, none⟩).run Tryz.prog w = .ok (.int .i64 n) w := by
  simp [loadVar, h]
theorem ldH {w : World} {g : Nat} {cs : List Value} (h : w.rangeAt g 0 cs) (hl : Hc cs) : (loadVar 24 ⟨g, 0, none⟩).run Tryz.prog w = .ok (.agg cs.toArray) w :=
  run_loadVar_mid w g 0 24 cs _ h Tryz.underlying24 rfl (by rw [hl.len]; exact iH)
end Go.Proofs.YthndmkhdcgdloaaGreatDoor
