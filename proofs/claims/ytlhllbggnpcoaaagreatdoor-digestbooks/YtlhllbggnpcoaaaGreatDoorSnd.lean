import Derived.Test.YtlhllbggnpcoaaaGreatDoorCdo
/-
  A book: met, Len, Sound; what a nil one answers.
-/
namespace Go.Proofs.YtlhllbggnpcoaaaGreatDoor
open Go.RowKit Go.Sort Go.Maps Go.MuLone

instance (κ : List Nat → List Nat) (L : List (List Nat)) : Decidable (Lone κ L) := inferInstanceAs (Decidable (List.Pairwise _ L))

theorem quiet_len {P : Program} {ops : Array Oper} {C : World → Prop} {Q : Act → Prop} {a : Act} {o : Oper} {rest : List Oper} (hw : Region.wanted o (yielded ops a.tmps) = true) (x : Operand) (t : TypeId) (ho : o.op = .call { callee := .builtin .len, args := #[x], argTypes := #[t] })
    (vx v : Value) (hx : a.eval x = vx) (hr : ∀ w, C w → (Builtin.len_ #[t] o.type #[vx]).run P w = .ok v w) (h : wpQuiet P ops C Q rest (a.put o.dst v)) : wpQuiet P ops C Q (o :: rest) a := by
  refine wpQuiet_step fun K hK => ?_
  rw [if_pos hw]
  refine ⟨v, fun w hC => ?_, hK _ h⟩
  unfold Oper.quietAt execOp
  simp only [ho, resolve, invoke, builtin, List.map_toArray, List.map_cons, List.map_nil, hx, Sem.run_bind, hr w hC, Sem.run_pure, Result.andThen_ok]
  exact ⟨rfl, rfl⟩

set_option maxRecDepth 100000 in
set_option maxHeartbeats 1600000 in
theorem met_any (w : World) (p o bm : Nat) (F : Nat → Prop) (κ : List Nat → List Nat) (L : List (List Nat)) (h : NAt w p o bm F κ L) :
    Calls Tryz.prog 32 #[.pointer (some ⟨p, o, none⟩)] w fun e w' => e = .returned (.bool (decide (¬ Lone κ L))) ∧ Below w.heap.size w w' := by
  obtain ⟨D, V, n, N⟩ := h.notes
  have s1 := fun (d : Nat) (os : Array Obj) => cell_regrown h.map d os
  have s2 := fun (d : Nat) (os : Array Obj) => cell_regrown h.cnt d os
  have hln : ∀ w', (∃ r : Regrown, w' = grow (redrawn w r.d) r.os) → (Builtin.len_ #[53] 3 #[.map (some bm)]).run Tryz.prog w' = .ok (.int .i64 (Maps.size D)) w' := by
    rintro _ ⟨r, rfl⟩
    exact (N.below (below_regrown w r.d r.os)).map.len info_map 3
  obtain ⟨sz, hsz⟩ : ∃ sz, sz = Maps.size D := ⟨_, rfl⟩
  rw [← hsz] at hln
  have hc := N.cnt
  rw [← hsz] at hc
  obtain ⟨r, hr⟩ : ∃ r, r = decide (¬ Lone κ L) := ⟨_, rfl⟩
  rw [← hr]
  have hd : decide ((sz : Int) < (L.length : Int)) = r := by
    rw [hr]
    by_cases q : Lone κ L
    · have := hc.2.2 q
      rw [decide_eq_false (by omega : ¬ (sz : Int) < (L.length : Int)), decide_eq_false (fun z => z q)]
    · have : sz ≠ L.length := fun z => q (hc.2.1 z)
      rw [decide_eq_true (by omega : (sz : Int) < (L.length : Int)), decide_eq_true q]
  have HD : Hid (decide ((sz : Int) < (L.length : Int)) = r) := hd
  clear N h hc hr hsz hd
  go_enter Tryz.func32, Tryz.ntmps32
  go_wp2_with fail
  refine wp_region_quiet_below (by kernel_rfl) (by kernel_rfl) ?_
  iterate 8 (go_big_quiet_step (fail))
  refine quiet_len (by rfl) _ _ (by rfl) (.map (some bm)) (.int .i64 sz) (by rfl) hln ?_
  repeat (first | go_big_quiet_step (fail) | quiet_step (fail))
  refine wpQuiet_nil ?_
  intro w9 hw'
  obtain ⟨⟨dq, osq⟩, hw''⟩ := hw'
  have HC : Hid (Below w.heap.size w w9) := by rw [hw'']; exact below_regrown w dq osq
  clear hw'' hln s1 s2
  go_wp2_with fail
  go_ret
  refine ⟨?_, HC.out⟩
  rw [← HD.out]
  simp

/-- what a nil book answers -/
theorem nilLen (w : World) : Calls Tryz.prog 7 #[.pointer none] w fun e w' => e = .returned (.tuple #[.int .i64 0, .int .i64 0]) ∧ w' = w := by
  go_enter_defers Tryz.func7, Tryz.ntmps7
  go_wp2
  exact ⟨_, results_tmp2 rfl _ _ _, rfl, rfl⟩
theorem nilSound (w : World) : Calls Tryz.prog 11 #[.pointer none] w fun e w' => e = .returned (.bool false) ∧ w' = w := by
  go_enter_defers Tryz.func11, Tryz.ntmps11
  go_wp2
  exact ⟨_, results_tmp rfl _ _ _, rfl, rfl⟩
theorem nilClashes (w : World) : Calls Tryz.prog 12 #[.pointer none] w fun e w' => e = .returned (.slice none 0 0) ∧ w' = w := by
  go_enter_defers Tryz.func12, Tryz.ntmps12
  go_wp2
  exact ⟨_, results_tmp rfl _ _ _, rfl, rfl⟩
theorem nilForgeries (w : World) : Calls Tryz.prog 14 #[.pointer none] w fun e w' => e = .returned (.slice none 0 0) ∧ w' = w := by
  go_enter_defers Tryz.func14, Tryz.ntmps14
  go_wp2
  exact ⟨_, results_tmp rfl _ _ _, rfl, rfl⟩
set_option maxRecDepth 100000 in
theorem nilAccept (w : World) (v : Value) : Calls Tryz.prog 10 #[.pointer none, v, .agg Z32] w fun e w' => e = .returned (.bool false) ∧ Below w.heap.size w w' := by
  have b1 : Below w.heap.size w (w.alloc (.cells Z32 31)) := (Below.refl _ _).alloc (Nat.le_refl _) _
  have bs : Z32.size = 32 := rfl
  go_enter_defers Tryz.func10, Tryz.ntmps10
  go_wp2
  exact ⟨_, results_tmp rfl _ _ _, rfl, b1⟩
theorem builtZ : Tryz.prog.built 31 [] = some Z32 := by kernel_rfl
theorem zh : IsH (lst 32 (fun _ => 0)) := isH_lst (fun _ => by decide)
theorem nil_store (w : World) : (w.alloc (.cells Z32 31)).heap[w.heap.size]? = some (.cells Z32 31 (0, 0)) := heap_alloc_new _ _
set_option maxRecDepth 100000 in
theorem nilHash (w : World) (v : Value) : Calls Tryz.prog 8 #[.pointer none, v] w fun e w' => e = .returned (.agg Z32) ∧ Below w.heap.size w w' := by
  have z64 := (zero_of_info infoH).1
  have b1 : Below w.heap.size w ((w.alloc (.cells Z32 31)).setRow w.heap.size Z32) := below_setRow ((Below.refl _ _).alloc (Nat.le_refl _) _) (Nat.le_refl _) _
  have hi : (Tryz.prog.info? 31).map (·.size) = some Z32.size := info26
  go_enter_defers Tryz.func8, Tryz.ntmps8
  go_wp2_with (first
    | refine wpList_build_to (by rfl) 31 #[] (by rfl) Z32 builtZ ?_
    | refine wpList_store_row (by rfl) 31 (.tmp 4) (.tmp 8) (by rfl) w.heap.size Z32 (by rfl) (by rfl) 31 Z32 (nil_store w) hi (by rfl) Z32_one ?_)
  exact ⟨_, results_cell_row rfl _ _ w.heap.size 31 Z32 (0, 0) _ rfl (setRow_heap _ _ _ _ _ _ (nil_store w)) Tryz.underlying31 rfl hi, rfl, b1⟩
set_option maxRecDepth 100000 in
theorem nilCode (w : World) (v : Value) : Calls Tryz.prog 9 #[.pointer none, v] w fun e w' => e = .returned (.agg Z32) ∧ Below w.heap.size w w' := by
  have z64 := (zero_of_info infoH).1
  have b1 : Below w.heap.size w ((w.alloc (.cells Z32 31)).setRow w.heap.size Z32) := below_setRow ((Below.refl _ _).alloc (Nat.le_refl _) _) (Nat.le_refl _) _
  have hi : (Tryz.prog.info? 31).map (·.size) = some Z32.size := info26
  go_enter_defers Tryz.func9, Tryz.ntmps9
  go_wp2_with (first
    | refine wpList_build_to (by rfl) 31 #[] (by rfl) Z32 builtZ ?_
    | refine wpList_store_row (by rfl) 31 (.tmp 4) (.tmp 8) (by rfl) w.heap.size Z32 (by rfl) (by rfl) 31 Z32 (nil_store w) hi (by rfl) Z32_one ?_)
  exact ⟨_, results_cell_row rfl _ _ w.heap.size 31 Z32 (0, 0) _ rfl (setRow_heap _ _ _ _ _ _ (nil_store w)) Tryz.underlying31 rfl hi, rfl, b1⟩
end Go.Proofs.YtlhllbggnpcoaaaGreatDoor

/-
  A book: Len, Sound.
-/
namespace Go.Proofs.YtlhllbggnpcoaaaGreatDoor
open Go.RowKit Go.Sort Go.Maps Go.MuLone

/-- THE LOCK IS GIVEN BACK: what has become of the book. -/
theorem book_close {w w8 : World} {B sb : Nat} {st : Bst} {bh bc bf : Nat} {Fh Fc Ff F : Nat → Prop} (h : BookX w8 B sb st 1 bh bc bf Fh Fc Ff) (t : Turn F w w8) (hs : F sb) (h1 : ∀ i, F i → i = sb ∨ Fh i ∨ Fc i ∨ Ff i) (h2 : ∀ i, (Fh i ∨ Fc i ∨ Ff i) → F i ∨ w.heap.size ≤ i) :
    Turned w (w8.setCell ⟨sb, 34, none⟩ (.int .i32 0)) B sb st F := by
  refine ⟨⟨fun i => i = sb ∨ Fh i ∨ Fc i ∨ Ff i, h1, fun i q => ?_, ⟨bh, bc, bf, Fh, Fc, Ff, h.lock 0, fun i => Iff.rfl⟩⟩, t.trans (Turn.setCell w8 ⟨sb, 34, none⟩ _ (F := F) hs) (fun i q => Or.inl q)⟩
  rcases q with q | q
  · exact Or.inl (q ▸ hs)
  · exact h2 i q

set_option maxRecDepth 100000 in
set_option maxHeartbeats 1600000 in
theorem len_any4 (w : World) (B sb : Nat) (st : Bst) (F : Nat → Prop) (h : Book w B sb st F) :
    Calls Tryz.prog 7 #[.pointer (some ⟨sb, 0, none⟩)] w fun e w' => e = .returned (.tuple #[.int .i64 (st.LH.length : Nat), .int .i64 (st.LC.length : Nat)]) ∧ Turned w w' B sb st F := by
  obtain ⟨bh, bc, bf, Fh, Fc, Ff, hx, hF⟩ := h
  have lk := lock_free muLib ⟨sb, 34, none⟩ w hx.state (hx.frozen 34)
  have hx2 := hx.lock 1
  have t2 : Turn F w (w.setCell ⟨sb, 34, none⟩ (.int .i32 1)) := Turn.setCell w _ _ ((hF sb).2 (Or.inl rfl))
  obtain ⟨w2, hw2⟩ : ∃ w2, w2 = w.setCell ⟨sb, 34, none⟩ (.int .i32 1) := ⟨_, rfl⟩
  rw [← hw2] at lk hx2 t2
  have s1 := fun (d : Nat) (os : Array Obj) => cell_regrown hx2.natH.cnt d os
  have s2 := fun (d : Nat) (os : Array Obj) => cell_regrown hx2.natC.cnt d os
  simp only [Nat.reduceAdd] at s1 s2
  have HX : Hid (BookX w2 B sb st 1 bh bc bf Fh Fc Ff ∧ Turn F w w2 ∧ (∀ i, F i ↔ i = sb ∨ Fh i ∨ Fc i ∨ Ff i)) := ⟨hx2, t2, hF⟩
  generalize st.LH.length = n1 at s1 ⊢
  generalize st.LC.length = n2 at s2 ⊢
  clear hx hx2 hF t2 hw2
  go_enter_defers Tryz.func7, Tryz.ntmps7
  go_wp2_with (go_at_call 24; refine lk.mono ?_; rintro _ w' ⟨rfl, hw'⟩; have hw'' := hw'.symm; subst hw'')
  refine wp_region_quiet_below (by kernel_rfl) (by kernel_rfl) ?_
  repeat (first | go_big_quiet_step (fail) | quiet_step (fail))
  refine wpQuiet_nil ?_
  intro w9 hw'
  obtain ⟨⟨dq, osq⟩, hw''⟩ := hw'
  have HC : Hid (Below w2.heap.size w2 w9) := by rw [hw'']; exact below_regrown w2 dq osq
  clear hw'' s1 s2 lk
  have hx9 := HX.out.1.below HC.out
  go_wp2_with fail
  refine leaves_cons (f := 25) (args := #[.pointer (some ⟨sb, 34, none⟩)]) (by simp) (by simp [go_sem]) ?_
  refine (unlock_deferred muLib ⟨sb, 34, none⟩ .returning _ hx9.state (hx9.frozen 34)).mono ?_
  rintro e u' w'' ⟨rfl, rfl, rfl⟩
  refine ⟨_, results_tmp2 rfl _ _ _, rfl, ?_⟩
  have hF := HX.out.2.2
  exact book_close hx9 (HX.out.2.1.trans (Turn.of_below HC.out (F := F)) (fun i q => Or.inl q)) ((hF sb).2 (Or.inl rfl)) (fun i q => (hF i).1 q) (fun i q => Or.inl ((hF i).2 (Or.inr q)))

theorem bb_true {a b c : Prop} [Decidable a] [Decidable b] [Decidable c] (ha : a) (hb : b) : (decide a && decide b && decide c) = decide c := by rw [decide_eq_true ha, decide_eq_true hb]; rfl

set_option maxRecDepth 100000 in
set_option maxHeartbeats 1600000 in
theorem sound_any (w : World) (B sb : Nat) (st : Bst) (F : Nat → Prop) (h : Book w B sb st F) :
    Calls Tryz.prog 11 #[.pointer (some ⟨sb, 0, none⟩)] w fun e w' => e = .returned (.bool (decide (Lone (kh st.bits) st.LH) && decide (Lone (kc st.cbits st.S) st.LC) && decide (st.LF.length = 0))) ∧ Turned w w' B sb st F := by
  obtain ⟨bh, bc, bf, Fh, Fc, Ff, hx, hF⟩ := h
  have lk := lock_free muLib ⟨sb, 34, none⟩ w hx.state (hx.frozen 34)
  have hx2 := hx.lock 1
  have t2 : Turn F w (w.setCell ⟨sb, 34, none⟩ (.int .i32 1)) := Turn.setCell w _ _ ((hF sb).2 (Or.inl rfl))
  obtain ⟨w2, hw2⟩ : ∃ w2, w2 = w.setCell ⟨sb, 34, none⟩ (.int .i32 1) := ⟨_, rfl⟩
  rw [← hw2] at lk hx2 t2
  have HX : Hid (BookX w2 B sb st 1 bh bc bf Fh Fc Ff ∧ Turn F w w2 ∧ (∀ i, F i ↔ i = sb ∨ Fh i ∨ Fc i ∨ Ff i)) := ⟨hx2, t2, hF⟩
  have mh := met_any w2 sb 36 bh Fh (kh st.bits) st.LH hx2.natH
  have HM : Hid (∀ w', Below w2.heap.size w2 w' → Calls Tryz.prog 32 #[.pointer (some ⟨sb, 38, none⟩)] w' fun e w'' => e = .returned (.bool (decide (¬ Lone (kc st.cbits st.S) st.LC))) ∧ Below w'.heap.size w' w'') := fun w' hb => met_any w' sb 38 bc Fc (kc st.cbits st.S) st.LC (hx2.below hb).natC
  have HN : Hid (∀ w', Below w2.heap.size w2 w' → w'.cell? ⟨sb, 41, none⟩ = some (.int .i64 (st.LF.length : Nat))) := fun w' hb => (hx2.below hb).natF.cnt
  clear hx hx2 hF t2 hw2
  by_cases q1 : Lone (kh st.bits) st.LH
  · rw [decide_eq_false (fun z => z q1)] at mh
    have H1 : Hid (Lone (kh st.bits) st.LH) := q1
    clear q1
    by_cases q2 : Lone (kc st.cbits st.S) st.LC
    · have H2 : Hid (Lone (kc st.cbits st.S) st.LC) := q2
      clear q2
      go_enter_defers Tryz.func11, Tryz.ntmps11
      go_wp2_with (go_at_call 24; refine lk.mono ?_; rintro _ w' ⟨rfl, hw'⟩; have hw'' := hw'.symm; subst hw'')
      refine mh.mono ?_
      rintro _ w5 ⟨rfl, hb5⟩
      have HC5 : Hid (Below w2.heap.size w2 w5) := hb5
      have mc := HM.out w5 hb5
      rw [decide_eq_false (fun z => z H2.out)] at mc
      clear hb5 mh lk
      go_wp2_with fail
      refine mc.mono ?_
      rintro _ w6 ⟨rfl, hb6⟩
      have HC : Hid (Below w2.heap.size w2 w6) := ch HC5.out hb6
      have c41 := HN.out w6 HC.out
      clear hb6 mc
      have hx9 := HX.out.1.below HC.out
      go_wp2_with fail
      refine leaves_cons (f := 25) (args := #[.pointer (some ⟨sb, 34, none⟩)]) (by simp) (by simp [go_sem]) ?_
      refine (unlock_deferred muLib ⟨sb, 34, none⟩ .returning _ hx9.state (hx9.frozen 34)).mono ?_
      rintro e u' w'' ⟨rfl, rfl, rfl⟩
      refine ⟨_, results_tmp rfl _ _ _, ?_, ?_⟩
      · rw [bb_true H1.out H2.out]
        by_cases z : st.LF.length = 0 <;> simp [z]
      have hF := HX.out.2.2
      exact book_close hx9 (HX.out.2.1.trans (Turn.of_below HC.out (F := F)) (fun i q => Or.inl q)) ((hF sb).2 (Or.inl rfl)) (fun i q => (hF i).1 q) (fun i q => Or.inl ((hF i).2 (Or.inr q)))
    · have H2 : Hid (¬ Lone (kc st.cbits st.S) st.LC) := q2
      clear q2
      go_enter_defers Tryz.func11, Tryz.ntmps11
      go_wp2_with (go_at_call 24; refine lk.mono ?_; rintro _ w' ⟨rfl, hw'⟩; have hw'' := hw'.symm; subst hw'')
      refine mh.mono ?_
      rintro _ w5 ⟨rfl, hb5⟩
      have HC5 : Hid (Below w2.heap.size w2 w5) := hb5
      have mc := HM.out w5 hb5
      rw [decide_eq_true H2.out] at mc
      clear hb5 mh lk
      go_wp2_with fail
      refine mc.mono ?_
      rintro _ w6 ⟨rfl, hb6⟩
      have HC : Hid (Below w2.heap.size w2 w6) := ch HC5.out hb6
      clear hb6 mc
      have hx9 := HX.out.1.below HC.out
      go_wp2_with fail
      refine leaves_cons (f := 25) (args := #[.pointer (some ⟨sb, 34, none⟩)]) (by simp) (by simp [go_sem]) ?_
      refine (unlock_deferred muLib ⟨sb, 34, none⟩ .returning _ hx9.state (hx9.frozen 34)).mono ?_
      rintro e u' w'' ⟨rfl, rfl, rfl⟩
      refine ⟨_, results_tmp rfl _ _ _, ?_, ?_⟩
      · rw [decide_eq_false H2.out]; simp
      have hF := HX.out.2.2
      exact book_close hx9 (HX.out.2.1.trans (Turn.of_below HC.out (F := F)) (fun i q => Or.inl q)) ((hF sb).2 (Or.inl rfl)) (fun i q => (hF i).1 q) (fun i q => Or.inl ((hF i).2 (Or.inr q)))
  · rw [decide_eq_true q1] at mh
    have H1 : Hid (¬ Lone (kh st.bits) st.LH) := q1
    clear q1
    go_enter_defers Tryz.func11, Tryz.ntmps11
    go_wp2_with (go_at_call 24; refine lk.mono ?_; rintro _ w' ⟨rfl, hw'⟩; have hw'' := hw'.symm; subst hw'')
    refine mh.mono ?_
    rintro _ w5 ⟨rfl, hb5⟩
    have HC : Hid (Below w2.heap.size w2 w5) := hb5
    clear hb5 mh lk
    have hx9 := HX.out.1.below HC.out
    go_wp2_with fail
    refine leaves_cons (f := 25) (args := #[.pointer (some ⟨sb, 34, none⟩)]) (by simp) (by simp [go_sem]) ?_
    refine (unlock_deferred muLib ⟨sb, 34, none⟩ .returning _ hx9.state (hx9.frozen 34)).mono ?_
    rintro e u' w'' ⟨rfl, rfl, rfl⟩
    refine ⟨_, results_tmp rfl _ _ _, ?_, ?_⟩
    · rw [decide_eq_false H1.out]; simp
    have hF := HX.out.2.2
    exact book_close hx9 (HX.out.2.1.trans (Turn.of_below HC.out (F := F)) (fun i q => Or.inl q)) ((hF sb).2 (Or.inl rfl)) (fun i q => (hF i).1 q) (fun i q => Or.inl ((hF i).2 (Or.inr q)))
end Go.Proofs.YtlhllbggnpcoaaaGreatDoor
