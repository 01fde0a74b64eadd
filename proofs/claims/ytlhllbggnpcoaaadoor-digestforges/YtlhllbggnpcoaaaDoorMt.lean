import Derived.Test.YtlhllbggnpcoaaaDoorCdo
/-
  A book: met, Len, Sound; what a nil one answers.
-/
namespace Go.Proofs.YtlhllbggnpcoaaaDoor
open Go.RowKit Go.Sort Go.Maps Go.MuLone

instance (κ : List Nat → List Nat) (L : List (List Nat)) : Decidable (Lone κ L) := inferInstanceAs (Decidable (List.Pairwise _ L))

theorem quiet_len {P : Program} {ops : Array Oper} {C : World → Prop} {Q : Act → Prop} {a : Act} {o : Oper} {rest : List Oper} (hw : Region.wanted o (yielded ops a.tmps) = true) (x : Operand) (t : TypeId) (ho : o.op = .call { callee := .builtin .len, args := #[x], argTypes := #[t] })
    (vx v : Value) (hx : a.eval x = vx) (hr : ∀ w, C w → (Builtin.len_ #[t] o.type #[vx]).run P w = .ok v w) (h : wpQuiet P ops C Q rest (a.put o.dst v)) : wpQuiet P ops C Q (o :: rest) a := by
  refine wpQuiet_step fun K hK => ?_
  rw [if_pos hw]
  refine ⟨v, fun w hC => ?_, hK _ h⟩
  unfold Oper.quietAt execOp
  simp only [ho, resolve, invoke, builtin, List.map_toArray, List.map_cons, List.map_nil, hx, Sem.run_bind, hr w hC, Sem.run_pure, Result.andThen_ok]
  exact ⟨rfl, rfl⟩

set_option maxRecDepth 100000 in
set_option maxHeartbeats 1600000 in
theorem met_any (w : World) (p o bm : Nat) (F : Nat → Prop) (κ : List Nat → List Nat) (L : List (List Nat)) (h : NAt w p o bm F κ L) :
    Calls Tryd.prog 29 #[.pointer (some ⟨p, o, none⟩)] w fun e w' => e = .returned (.bool (decide (¬ Lone κ L))) ∧ Below w.heap.size w w' := by
  obtain ⟨D, V, n, N⟩ := h.notes
  have s1 := fun (d : Nat) (os : Array Obj) => cell_regrown h.map d os
  have s2 := fun (d : Nat) (os : Array Obj) => cell_regrown h.cnt d os
  have hln : ∀ w', (∃ r : Regrown, w' = grow (redrawn w r.d) r.os) → (Builtin.len_ #[52] 3 #[.map (some bm)]).run Tryd.prog w' = .ok (.int .i64 (Maps.size D)) w' := by
    rintro _ ⟨r, rfl⟩
    exact (N.below (below_regrown w r.d r.os)).map.len info_map 3
  obtain ⟨sz, hsz⟩ : ∃ sz, sz = Maps.size D := ⟨_, rfl⟩
  rw [← hsz] at hln
  have hc := N.cnt
  rw [← hsz] at hc
  obtain ⟨r, hr⟩ : ∃ r, r = decide (¬ Lone κ L) := ⟨_, rfl⟩
  rw [← hr]
  have hd : decide ((sz : Int) < (L.length : Int)) = r := by
    rw [hr]
    by_cases q : Lone κ L
    · have := hc.2.2 q
      rw [decide_eq_false (by omega : ¬ (sz : Int) < (L.length : Int)), decide_eq_false (fun z => z q)]
    · have : sz ≠ L.length := fun z => q (hc.2.1 z)
      rw [decide_eq_true (by omega : (sz : Int) < (L.length : Int)), decide_eq_true q]
  have HD : Hid (decide ((sz : Int) < (L.length : Int)) = r) := hd
  clear N h hc hr hsz hd
  go_enter Tryd.func29, Tryd.ntmps29
  go_wp2_with fail
  refine wp_region_quiet_below (by kernel_rfl) (by kernel_rfl) ?_
  iterate 8 (go_big_quiet_step (fail))
  refine quiet_len (by rfl) _ _ (by rfl) (.map (some bm)) (.int .i64 sz) (by rfl) hln ?_
  repeat (first | go_big_quiet_step (fail) | quiet_step (fail))
  refine wpQuiet_nil ?_
  intro w9 hw'
  obtain ⟨⟨dq, osq⟩, hw''⟩ := hw'
  have HC : Hid (Below w.heap.size w w9) := by rw [hw'']; exact below_regrown w dq osq
  clear hw'' hln s1 s2
  go_wp2_with fail
  go_ret
  refine ⟨?_, HC.out⟩
  rw [← HD.out]
  simp

/-- what a nil book answers -/
theorem nilLen (w : World) : Calls Tryd.prog 18 #[.pointer none] w fun e w' => e = .returned (.tuple #[.int .i64 0, .int .i64 0]) ∧ w' = w := by
  go_enter_defers Tryd.func18, Tryd.ntmps18
  go_wp2
  exact ⟨_, results_tmp2 rfl _ _ _, rfl, rfl⟩
theorem nilSound (w : World) : Calls Tryd.prog 13 #[.pointer none] w fun e w' => e = .returned (.bool false) ∧ w' = w := by
  go_enter_defers Tryd.func13, Tryd.ntmps13
  go_wp2
  exact ⟨_, results_tmp rfl _ _ _, rfl, rfl⟩
theorem nilClashes (w : World) : Calls Tryd.prog 15 #[.pointer none] w fun e w' => e = .returned (.slice none 0 0) ∧ w' = w := by
  go_enter_defers Tryd.func15, Tryd.ntmps15
  go_wp2
  exact ⟨_, results_tmp rfl _ _ _, rfl, rfl⟩
theorem nilForgeries (w : World) : Calls Tryd.prog 14 #[.pointer none] w fun e w' => e = .returned (.slice none 0 0) ∧ w' = w := by
  go_enter_defers Tryd.func14, Tryd.ntmps14
  go_wp2
  exact ⟨_, results_tmp rfl _ _ _, rfl, rfl⟩
set_option maxRecDepth 100000 in
theorem nilAccept (w : World) (v : Value) : Calls Tryd.prog 12 #[.pointer none, v, .agg Z32] w fun e w' => e = .returned (.bool false) ∧ Below w.heap.size w w' := by
  have b1 : Below w.heap.size w (w.alloc (.cells Z32 31)) := (Below.refl _ _).alloc (Nat.le_refl _) _
  have bs : Z32.size = 32 := rfl
  go_enter_defers Tryd.func12, Tryd.ntmps12
  go_wp2
  exact ⟨_, results_tmp rfl _ _ _, rfl, b1⟩
theorem builtZ : Tryd.prog.built 31 [] = some Z32 := by kernel_rfl
theorem zh : IsH (lst 32 (fun _ => 0)) := isH_lst (fun _ => by decide)
theorem nil_store (w : World) : (w.alloc (.cells Z32 31)).heap[w.heap.size]? = some (.cells Z32 31 (0, 0)) := heap_alloc_new _ _
set_option maxRecDepth 100000 in
theorem nilHash (w : World) (v : Value) : Calls Tryd.prog 10 #[.pointer none, v] w fun e w' => e = .returned (.agg Z32) ∧ Below w.heap.size w w' := by
  have z64 := (zero_of_info infoH).1
  have b1 : Below w.heap.size w ((w.alloc (.cells Z32 31)).setRow w.heap.size Z32) := below_setRow ((Below.refl _ _).alloc (Nat.le_refl _) _) (Nat.le_refl _) _
  have hi : (Tryd.prog.info? 31).map (·.size) = some Z32.size := info26
  go_enter_defers Tryd.func10, Tryd.ntmps10
  go_wp2_with (first
    | refine wpList_build_to (by rfl) 31 #[] (by rfl) Z32 builtZ ?_
    | refine wpList_store_row (by rfl) 31 (.tmp 4) (.tmp 8) (by rfl) w.heap.size Z32 (by rfl) (by rfl) 31 Z32 (nil_store w) hi (by rfl) Z32_one ?_)
  exact ⟨_, results_cell_row rfl _ _ w.heap.size 31 Z32 (0, 0) _ rfl (setRow_heap _ _ _ _ _ _ (nil_store w)) Tryd.underlying31 rfl hi, rfl, b1⟩
set_option maxRecDepth 100000 in
theorem nilCode (w : World) (v : Value) : Calls Tryd.prog 11 #[.pointer none, v] w fun e w' => e = .returned (.agg Z32) ∧ Below w.heap.size w w' := by
  have z64 := (zero_of_info infoH).1
  have b1 : Below w.heap.size w ((w.alloc (.cells Z32 31)).setRow w.heap.size Z32) := below_setRow ((Below.refl _ _).alloc (Nat.le_refl _) _) (Nat.le_refl _) _
  have hi : (Tryd.prog.info? 31).map (·.size) = some Z32.size := info26
  go_enter_defers Tryd.func11, Tryd.ntmps11
  go_wp2_with (first
    | refine wpList_build_to (by rfl) 31 #[] (by rfl) Z32 builtZ ?_
    | refine wpList_store_row (by rfl) 31 (.tmp 4) (.tmp 8) (by rfl) w.heap.size Z32 (by rfl) (by rfl) 31 Z32 (nil_store w) hi (by rfl) Z32_one ?_)
  exact ⟨_, results_cell_row rfl _ _ w.heap.size 31 Z32 (0, 0) _ rfl (setRow_heap _ _ _ _ _ _ (nil_store w)) Tryd.underlying31 rfl hi, rfl, b1⟩
end Go.Proofs.YtlhllbggnpcoaaaDoor
