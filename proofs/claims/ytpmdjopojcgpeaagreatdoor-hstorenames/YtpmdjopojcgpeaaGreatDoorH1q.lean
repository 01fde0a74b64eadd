import Derived.Test.YtpmdjopojcgpeaaGreatDoorNzq
/-
  hstore: laws of one operation; isBlob, newCache, New; a nil store. (Written by gen_h1.py.)
-/
namespace Go.Proofs.YtpmdjopojcgpeaaGreatDoor
open Go.RowKit Go.Maps Go.ChangeMaps

section
variable {ops : Array Oper} {S : World → Prop} {o : Oper} {a : Act}
theorem y_f_Sto0 (hw : Region.wanted o (yielded ops a.tmps) = true) (x : Operand) (ho : o.op = .fieldAddr 103 x 0) (g p : Nat) (hx : a.eval x = .pointer (some ⟨g, p, none⟩)) : YieldsIf Tryz.prog ops S o (.pointer (some ⟨g, p, none⟩)) a :=
  .inl ⟨hw, fun w hs => by
    unfold execOp
    simp only [ho, hx]
    go_simp⟩
theorem y_f_Sto1 (hw : Region.wanted o (yielded ops a.tmps) = true) (x : Operand) (ho : o.op = .fieldAddr 103 x 1) (g p : Nat) (hx : a.eval x = .pointer (some ⟨g, p, none⟩)) : YieldsIf Tryz.prog ops S o (.pointer (some ⟨g, p + 1, none⟩)) a :=
  .inl ⟨hw, fun w hs => by
    unfold execOp
    simp only [ho, hx]
    go_simp⟩
theorem y_f_Sto2 (hw : Region.wanted o (yielded ops a.tmps) = true) (x : Operand) (ho : o.op = .fieldAddr 103 x 2) (g p : Nat) (hx : a.eval x = .pointer (some ⟨g, p, none⟩)) : YieldsIf Tryz.prog ops S o (.pointer (some ⟨g, p + 2, none⟩)) a :=
  .inl ⟨hw, fun w hs => by
    unfold execOp
    simp only [ho, hx]
    go_simp⟩
theorem y_f_Sto3 (hw : Region.wanted o (yielded ops a.tmps) = true) (x : Operand) (ho : o.op = .fieldAddr 103 x 3) (g p : Nat) (hx : a.eval x = .pointer (some ⟨g, p, none⟩)) : YieldsIf Tryz.prog ops S o (.pointer (some ⟨g, p + 5, none⟩)) a :=
  .inl ⟨hw, fun w hs => by
    unfold execOp
    simp only [ho, hx]
    go_simp⟩
theorem y_f_Cch0 (hw : Region.wanted o (yielded ops a.tmps) = true) (x : Operand) (ho : o.op = .fieldAddr 99 x 0) (g p : Nat) (hx : a.eval x = .pointer (some ⟨g, p, none⟩)) : YieldsIf Tryz.prog ops S o (.pointer (some ⟨g, p, none⟩)) a :=
  .inl ⟨hw, fun w hs => by
    unfold execOp
    simp only [ho, hx]
    go_simp⟩
theorem y_f_Cch1 (hw : Region.wanted o (yielded ops a.tmps) = true) (x : Operand) (ho : o.op = .fieldAddr 99 x 1) (g p : Nat) (hx : a.eval x = .pointer (some ⟨g, p, none⟩)) : YieldsIf Tryz.prog ops S o (.pointer (some ⟨g, p + 1, none⟩)) a :=
  .inl ⟨hw, fun w hs => by
    unfold execOp
    simp only [ho, hx]
    go_simp⟩
theorem y_f_Cch2 (hw : Region.wanted o (yielded ops a.tmps) = true) (x : Operand) (ho : o.op = .fieldAddr 99 x 2) (g p : Nat) (hx : a.eval x = .pointer (some ⟨g, p, none⟩)) : YieldsIf Tryz.prog ops S o (.pointer (some ⟨g, p + 2, none⟩)) a :=
  .inl ⟨hw, fun w hs => by
    unfold execOp
    simp only [ho, hx]
    go_simp⟩
theorem y_l_book (hw : Region.wanted o (yielded ops a.tmps) = true) (x : Operand) (ho : o.op = .load 26 x) (g p : Nat) (hx : a.eval x = .pointer (some ⟨g, p, none⟩)) (v : Value) (hS : ∀ w, S w → w.cell? ⟨g, p, none⟩ = some v) : YieldsIf Tryz.prog ops S o v a :=
  .inl ⟨hw, fun w hs => by
    have c := hS w hs
    unfold execOp
    simp only [ho, hx]
    go_simp⟩
theorem y_l_mq (hw : Region.wanted o (yielded ops a.tmps) = true) (x : Operand) (ho : o.op = .load 101 x) (g p : Nat) (hx : a.eval x = .pointer (some ⟨g, p, none⟩)) (v : Value) (hS : ∀ w, S w → w.cell? ⟨g, p, none⟩ = some v) : YieldsIf Tryz.prog ops S o v a :=
  .inl ⟨hw, fun w hs => by
    have c := hS w hs
    unfold execOp
    simp only [ho, hx]
    go_simp⟩
end
/-- THE BLOCK sb IS A STORE over the device g and the book bk. -/
structure Stb (w : World) (sb g bk : Nat) (most : Int) (ord : Value) (mb mq : Nat) : Prop where
  blk : w.heap[sb]? = some (.cells #[.pointer (some ⟨g, 0, none⟩), .pointer (some ⟨bk, 0, none⟩), .int .i64 most, ord, .map (some mb), .map (some mq)] 103 (0, 0))
theorem Stb.at_ {w : World} {sb g bk : Nat} {most : Int} {ord : Value} {mb mq : Nat} (h : Stb w sb g bk most ord mb mq) : w.cell? ⟨sb, 0, none⟩ = some (.pointer (some ⟨g, 0, none⟩)) ∧ w.cell? ⟨sb, 1, none⟩ = some (.pointer (some ⟨bk, 0, none⟩)) ∧ w.cell? ⟨sb, 2, none⟩ = some (.int .i64 most) ∧ w.cell? ⟨sb, 3, none⟩ = some ord ∧ w.cell? ⟨sb, 4, none⟩ = some (.map (some mb)) ∧ w.cell? ⟨sb, 5, none⟩ = some (.map (some mq)) := by
  have c : ∀ i, w.cell? ⟨sb, i, none⟩ = (#[.pointer (some ⟨g, 0, none⟩), .pointer (some ⟨bk, 0, none⟩), .int .i64 most, ord, .map (some mb), .map (some mq)] : Array Value)[i]? := fun i => cell_of_row _ _ _ _ _ _ h.blk
  exact ⟨c 0, c 1, c 2, c 3, c 4, c 5⟩
theorem Stb.turn {G : Nat → Prop} {w w' : World} {sb g bk : Nat} {most : Int} {ord : Value} {mb mq : Nat} (h : Stb w sb g bk most ord mb mq) (t : Turn G w w') (hs : ¬ G sb) : Stb w' sb g bk most ord mb mq := ⟨t.at_new h.blk hs⟩
theorem Stb.keep {w w' : World} {sb g bk : Nat} {most : Int} {ord : Value} {mb mq : Nat} (h : Stb w sb g bk most ord mb mq) (k : Below w.heap.size w w') : Stb w' sb g bk most ord mb mq := h.turn (G := fun _ => False) (Turn.of_below k) (fun q => q)
def isB (n : Nat) : Bool := decide (1 ≤ n ∧ n ≤ 1024)
set_option maxRecDepth 100000 in
set_option maxHeartbeats 800000 in
theorem isBlob_any (w : World) (a : Option Addr) (n c : Nat) (hn : n ≤ 140737488351232) :
    Calls Tryz.prog 45 #[.slice a n c] w fun e w' => e = .returned (.bool (isB n)) ∧ w' = w := by
  by_cases h1 : 1 ≤ n
  · have i1 : (1 : Int) ≤ (n : Int) := by omega
    have HE : Hid (isB n = decide ((n : Int) ≤ 1024)) := by
      show decide (1 ≤ n ∧ n ≤ 1024) = _
      exact decide_eq_decide.2 (by omega)
    go_enter Tryz.func45, Tryz.ntmps45
    go_wp2_with fail
    go_ret
    exact ⟨by rw [HE.out]; rfl, rfl⟩
  · have i1 : ¬ (1 : Int) ≤ (n : Int) := by omega
    have HE : Hid (isB n = false) := decide_eq_false (fun q => h1 q.1)
    go_enter Tryz.func45, Tryz.ntmps45
    go_wp2_with fail
    go_ret
    exact ⟨by rw [HE.out]; rfl, rfl⟩
set_option maxRecDepth 100000 in
set_option maxHeartbeats 1600000 in
theorem newCache_any (w : World) (most : Int) :
    Calls Tryz.prog 38 #[.int .i64 most] w fun e w' => ∃ mb, e = .returned (.agg #[.int .i64 most, nilS, .map (some mb)]) ∧ w'.heap[mb]? = some (.map #[] 0) ∧ w.heap.size ≤ mb ∧ Below w.heap.size w w' := by
  have hmm := @run_makeMap Tryz.prog
  go_enter Tryz.func38, Tryz.ntmps38
  go_wp2_with fail
  refine bodyPost_ret (v := .agg #[.int .i64 most, nilS, .map (some (w.heap.size + 1))]) (by simp [results, Tryz.results38, go_sem]) rfl ⟨w.heap.size + 1, rfl, ?_, by omega, ((Below.refl _ _).alloc (Nat.le_refl _) _).alloc (by simp) _⟩
  have := heap_alloc_new (w.alloc (.cells #[.int .i64 most, .slice none 0 0, .map (some (w.heap.size + 1))] 99)) (.map #[] 0)
  simpa using this
/-- a map that is empty -/
def EmpM (w : World) (m : Nat) : Prop := ∃ c, w.heap[m]? = some (.map #[] c)
theorem EmpM.turn {G : Nat → Prop} {w w' : World} {m : Nat} (h : EmpM w m) (t : Turn G w w') (hm : ¬ G m) : EmpM w' m := by
  obtain ⟨c, h⟩ := h
  exact ⟨c, t.at_new h hm⟩
theorem EmpM.own {w : World} {m : Nat} (h : EmpM w m) : w.ownsMap Tryz.prog 38 holdR m 0 (.map []) := by
  obtain ⟨c, h⟩ := h
  exact ⟨#[], c, h, ⟨by simp, MapKept.stamped_empty c, by simp⟩, Nat.le_refl _, rfl⟩
theorem EmpM.look {w : World} {m : Nat} (h : EmpM w m) {k : List Nat} (hk : IsH k) : (Instr.lookup 101 (.map (some m)) (.agg (hA k)) true).run Tryz.prog w = .ok (.tuple #[.agg #[], .bool false]) w := by
  obtain ⟨c, h⟩ := h
  have hz : (zeroValue 88).run Tryz.prog w = .ok (.agg #[]) w := zero_of_info (n := 0) (by kernel_rfl) w
  rcases Maps.fit_look (R := holdR) (es := #[]) (clock := c) true keyed Tryz.underlying101 hz h ⟨by simp, MapKept.stamped_empty c, by simp⟩ (keyOf_hash hk) with ⟨q, _⟩ | ⟨e0, y, hm, _⟩
  · exact q
  · simp at hm
theorem EmpM.del {w : World} {m : Nat} (h : EmpM w m) {k : List Nat} (hk : IsH k) (ty : TypeId) : ∃ w', (Builtin.delete_ #[101, 38] ty #[.map (some m), .agg (hA k)]).run Tryz.prog w = .ok (.tuple #[]) w' ∧ EmpM w' m ∧ Turn (fun i => i = m) w w' := by
  obtain ⟨w', q1, q2, q3⟩ := h.own.drop keyed Tryz.underlying101 (keyOf_hash hk) ty
  refine ⟨w', q1, ?_, Turn.of_grown q3.grown (fun k e => (Option.some.inj e).symm)⟩
  obtain ⟨es, c, r1, _, r3, _⟩ := q2
  have : es = #[] := Array.eq_empty_of_size_eq_zero (by omega)
  subst this
  exact ⟨c, r1⟩
set_option maxRecDepth 100000 in
set_option maxHeartbeats 1600000 in
theorem newS_nil (w : World) (d b : Value) (c : Int) (h : d = .pointer none ∨ ((∃ g, d = .pointer (some ⟨g, 0, none⟩)) ∧ b = .pointer none)) :
    Calls Tryz.prog 10 #[d, b, .int .i64 c] w fun e w' => e = .returned (.tuple #[.pointer none, .int .i64 1]) ∧ w' = w := by
  rcases h with rfl | ⟨⟨g, rfl⟩, rfl⟩
  · go_enter Tryz.func10, Tryz.ntmps10
    go_wp2_with fail
    go_ret2
    exact ⟨rfl, rfl⟩
  · go_enter Tryz.func10, Tryz.ntmps10
    go_wp2_with fail
    go_ret2
    exact ⟨rfl, rfl⟩
set_option maxRecDepth 100000 in
set_option maxHeartbeats 1600000 in
theorem newS_bad (w : World) (g bk : Nat) (c : Int) (h : c < 0 ∨ 256 < c) :
    Calls Tryz.prog 10 #[.pointer (some ⟨g, 0, none⟩), .pointer (some ⟨bk, 0, none⟩), .int .i64 c] w fun e w' => e = .returned (.tuple #[.pointer none, .int .i64 100]) ∧ w' = w := by
  by_cases h0 : c < 0
  · go_enter Tryz.func10, Tryz.ntmps10
    go_wp2_with fail
    go_ret2
    exact ⟨rfl, rfl⟩
  · have h1 : 256 < c := by omega
    go_enter Tryz.func10, Tryz.ntmps10
    go_wp2_with fail
    go_ret2
    exact ⟨rfl, rfl⟩
set_option maxRecDepth 100000 in
set_option maxHeartbeats 1600000 in
theorem newS_ok (w : World) (g bk : Nat) (c : Int) (h0 : 0 ≤ c) (h1 : c ≤ 256) :
    Calls Tryz.prog 10 #[.pointer (some ⟨g, 0, none⟩), .pointer (some ⟨bk, 0, none⟩), .int .i64 c] w fun e w' => ∃ sb, e = .returned (.tuple #[.pointer (some ⟨sb, 0, none⟩), .int .i64 0]) ∧ ∃ mb mq, Stb w' sb g bk c nilS mb mq ∧ EmpM w' mb ∧ EmpM w' mq ∧ w.heap.size ≤ mb ∧ mb < mq ∧ mq < sb ∧ Below w.heap.size w w' := by
  have hmm := @run_makeMap Tryz.prog
  have n0 : ¬ c < 0 := by omega
  have n1 : ¬ 256 < c := by omega
  go_enter Tryz.func10, Tryz.ntmps10
  go_wp2_with (go_at_call 38; refine (newCache_any _ c).mono ?_; rintro _ w1 ⟨mb, rfl, hm, hl, hb⟩; have HM : Hid (w1.heap[mb]? = some (.map #[] 0) ∧ w.heap.size ≤ mb ∧ Below w.heap.size w w1) := ⟨hm, hl, hb⟩; clear hm hl hb)
  go_ret2
  have l1 := (Array.getElem?_eq_some_iff.1 HM.out.1).1
  have b1 : Below w1.heap.size w1 (w1.alloc (.map #[] 0)) := (Below.refl _ _).alloc (Nat.le_refl _) _
  have b2 : Below (w1.alloc (.map #[] 0)).heap.size (w1.alloc (.map #[] 0)) ((w1.alloc (.map #[] 0)).alloc (.cells #[.pointer (some ⟨g, 0, none⟩), .pointer (some ⟨bk, 0, none⟩), .int .i64 c, nilS, .map (some mb), .map (some w1.heap.size)] 103)) := (Below.refl _ _).alloc (Nat.le_refl _) _
  refine ⟨w1.heap.size + 1, rfl, mb, w1.heap.size, ⟨?_⟩, ⟨0, (b2.block _ (by simp; omega)).trans ((b1.block _ l1).trans HM.out.1)⟩, ⟨0, (b2.block _ (by simp)).trans (heap_alloc_new _ _)⟩, HM.out.2.1, l1, Nat.lt_succ_self _, ch (ch HM.out.2.2 b1) b2⟩
  have := heap_alloc_new (w1.alloc (.map #[] 0)) (.cells #[.pointer (some ⟨g, 0, none⟩), .pointer (some ⟨bk, 0, none⟩), .int .i64 c, nilS, .map (some mb), .map (some w1.heap.size)] 103)
  simpa using this
/-! ### a nil store -/
set_option maxRecDepth 100000 in
set_option maxHeartbeats 800000 in
theorem node_nil (w : World) (k : List Nat) : Calls Tryz.prog 12 #[.pointer none, .agg (bv k).toArray] w fun e w' => e = .returned (.tuple #[nilS, .int .i64 1]) ∧ Below w.heap.size w w' := by
  go_enter Tryz.func12, Tryz.ntmps12
  go_wp2_with fail
  go_ret2
  exact ⟨rfl, (Below.refl _ _).alloc (Nat.le_refl _) _⟩
set_option maxRecDepth 100000 in
set_option maxHeartbeats 800000 in
theorem fresh_nil (w : World) (k : List Nat) : Calls Tryz.prog 13 #[.pointer none, .agg (bv k).toArray] w fun e w' => e = .returned (.tuple #[nilS, .int .i64 1]) ∧ Below w.heap.size w w' := by
  go_enter Tryz.func13, Tryz.ntmps13
  go_wp2_with fail
  go_ret2
  exact ⟨rfl, (Below.refl _ _).alloc (Nat.le_refl _) _⟩
set_option maxRecDepth 100000 in
set_option maxHeartbeats 800000 in
theorem mend_nil (w : World) (v : Value) : Calls Tryz.prog 15 #[.pointer none, v] w fun e w' => e = .returned (.int .i64 1) ∧ Below w.heap.size w w' := by
  go_enter Tryz.func15, Tryz.ntmps15
  go_wp2_with fail
  go_ret
  exact ⟨rfl, Below.refl _ _⟩
set_option maxRecDepth 100000 in
set_option maxHeartbeats 800000 in
theorem quar_nil (w : World) : Calls Tryz.prog 16 #[.pointer none] w fun e w' => e = .returned nilS ∧ Below w.heap.size w w' := by
  go_enter Tryz.func16, Tryz.ntmps16
  go_wp2_with fail
  go_ret
  exact ⟨rfl, Below.refl _ _⟩
set_option maxRecDepth 100000 in
set_option maxHeartbeats 800000 in
theorem cached_nil (w : World) : Calls Tryz.prog 17 #[.pointer none] w fun e w' => e = .returned nilS ∧ Below w.heap.size w w' := by
  go_enter Tryz.func17, Tryz.ntmps17
  go_wp2_with fail
  go_ret
  exact ⟨rfl, Below.refl _ _⟩
set_option maxRecDepth 100000 in
set_option maxHeartbeats 800000 in
theorem forget_nil (w : World) (v : Value) : Calls Tryz.prog 11 #[.pointer none, v] w fun e w' => (∃ z, e = .returned z) ∧ w' = w := by
  go_enter Tryz.func11, Tryz.ntmps11
  go_wp2_with fail
  exact bodyPost_ret (results_none rfl _ _ _) rfl ⟨⟨_, rfl⟩, rfl⟩
end Go.Proofs.YtpmdjopojcgpeaaGreatDoor
