import Derived.Test.YtlhllbggnpcoaaaGreatDoorSnd
/-
  A book: Len, Sound, and what they leave.
-/
namespace Go.Proofs.YtlhllbggnpcoaaaGreatDoor
open Go.RowKit Go.Sort Go.Maps Go.MuLone

theorem book_close2 {w w8 : World} {B sb : Nat} {st : Bst} {bh bc bf : Nat} {Fh Fc Ff F : Nat → Prop} (h : BookX w8 B sb st 1 bh bc bf Fh Fc Ff) (t : Turn F w w8) (hF : ∀ i, F i ↔ i = sb ∨ Fh i ∨ Fc i ∨ Ff i) : Book (w8.setCell ⟨sb, 34, none⟩ (.int .i32 0)) B sb st F ∧ Turn F w (w8.setCell ⟨sb, 34, none⟩ (.int .i32 0)) :=
  ⟨⟨bh, bc, bf, Fh, Fc, Ff, h.lock 0, hF⟩, t.trans (Turn.setCell w8 ⟨sb, 34, none⟩ _ (F := F) ((hF sb).2 (Or.inl rfl))) (fun _ q => Or.inl q)⟩

set_option maxRecDepth 100000 in
set_option maxHeartbeats 1600000 in
theorem len_any5 (w : World) (B sb : Nat) (st : Bst) (F : Nat → Prop) (h : Book w B sb st F) :
    Calls Tryz.prog 7 #[.pointer (some ⟨sb, 0, none⟩)] w fun e w' => e = .returned (.tuple #[.int .i64 (st.LH.length : Nat), .int .i64 (st.LC.length : Nat)]) ∧ Book w' B sb st F ∧ Turn F w w' := by
  obtain ⟨bh, bc, bf, Fh, Fc, Ff, hx, hF⟩ := h
  have lk := lock_free muLib ⟨sb, 34, none⟩ w hx.state (hx.frozen 34)
  have hx2 := hx.lock 1
  have t2 : Turn F w (w.setCell ⟨sb, 34, none⟩ (.int .i32 1)) := Turn.setCell w _ _ ((hF sb).2 (Or.inl rfl))
  obtain ⟨w2, hw2⟩ : ∃ w2, w2 = w.setCell ⟨sb, 34, none⟩ (.int .i32 1) := ⟨_, rfl⟩
  rw [← hw2] at lk hx2 t2
  have s1 := fun (d : Nat) (os : Array Obj) => cell_regrown hx2.natH.cnt d os
  have s2 := fun (d : Nat) (os : Array Obj) => cell_regrown hx2.natC.cnt d os
  simp only [Nat.reduceAdd] at s1 s2
  have HX : Hid (BookX w2 B sb st 1 bh bc bf Fh Fc Ff ∧ Turn F w w2 ∧ (∀ i, F i ↔ i = sb ∨ Fh i ∨ Fc i ∨ Ff i)) := ⟨hx2, t2, hF⟩
  generalize st.LH.length = n1 at s1 ⊢
  generalize st.LC.length = n2 at s2 ⊢
  clear hx hx2 hF t2 hw2
  go_enter_defers Tryz.func7, Tryz.ntmps7
  go_wp2_with (go_at_call 24; refine lk.mono ?_; rintro _ w' ⟨rfl, hw'⟩; have hw'' := hw'.symm; subst hw'')
  refine wp_region_quiet_below (by kernel_rfl) (by kernel_rfl) ?_
  repeat (first | go_big_quiet_step (fail) | quiet_step (fail))
  refine wpQuiet_nil ?_
  intro w9 hw'
  obtain ⟨⟨dq, osq⟩, hw''⟩ := hw'
  have HC : Hid (Below w2.heap.size w2 w9) := by rw [hw'']; exact below_regrown w2 dq osq
  clear hw'' s1 s2 lk
  have hx9 := HX.out.1.below HC.out
  go_wp2_with fail
  refine leaves_cons (f := 25) (args := #[.pointer (some ⟨sb, 34, none⟩)]) (by simp) (by simp [go_sem]) ?_
  refine (unlock_deferred muLib ⟨sb, 34, none⟩ .returning _ hx9.state (hx9.frozen 34)).mono ?_
  rintro e u' w'' ⟨rfl, rfl, rfl⟩
  refine ⟨_, results_tmp2 rfl _ _ _, rfl, ?_⟩
  have hF := HX.out.2.2
  exact book_close2 hx9 (HX.out.2.1.trans (Turn.of_below HC.out (F := F)) (fun i q => Or.inl q)) hF

set_option maxRecDepth 100000 in
set_option maxHeartbeats 1600000 in
theorem sound_any5 (w : World) (B sb : Nat) (st : Bst) (F : Nat → Prop) (h : Book w B sb st F) :
    Calls Tryz.prog 11 #[.pointer (some ⟨sb, 0, none⟩)] w fun e w' => e = .returned (.bool (decide (Lone (kh st.bits) st.LH) && decide (Lone (kc st.cbits st.S) st.LC) && decide (st.LF.length = 0))) ∧ Book w' B sb st F ∧ Turn F w w' := by
  obtain ⟨bh, bc, bf, Fh, Fc, Ff, hx, hF⟩ := h
  have lk := lock_free muLib ⟨sb, 34, none⟩ w hx.state (hx.frozen 34)
  have hx2 := hx.lock 1
  have t2 : Turn F w (w.setCell ⟨sb, 34, none⟩ (.int .i32 1)) := Turn.setCell w _ _ ((hF sb).2 (Or.inl rfl))
  obtain ⟨w2, hw2⟩ : ∃ w2, w2 = w.setCell ⟨sb, 34, none⟩ (.int .i32 1) := ⟨_, rfl⟩
  rw [← hw2] at lk hx2 t2
  have HX : Hid (BookX w2 B sb st 1 bh bc bf Fh Fc Ff ∧ Turn F w w2 ∧ (∀ i, F i ↔ i = sb ∨ Fh i ∨ Fc i ∨ Ff i)) := ⟨hx2, t2, hF⟩
  have mh := met_any w2 sb 36 bh Fh (kh st.bits) st.LH hx2.natH
  have HM : Hid (∀ w', Below w2.heap.size w2 w' → Calls Tryz.prog 32 #[.pointer (some ⟨sb, 38, none⟩)] w' fun e w'' => e = .returned (.bool (decide (¬ Lone (kc st.cbits st.S) st.LC))) ∧ Below w'.heap.size w' w'') := fun w' hb => met_any w' sb 38 bc Fc (kc st.cbits st.S) st.LC (hx2.below hb).natC
  have HN : Hid (∀ w', Below w2.heap.size w2 w' → w'.cell? ⟨sb, 41, none⟩ = some (.int .i64 (st.LF.length : Nat))) := fun w' hb => (hx2.below hb).natF.cnt
  clear hx hx2 hF t2 hw2
  by_cases q1 : Lone (kh st.bits) st.LH
  · rw [decide_eq_false (fun z => z q1)] at mh
    have H1 : Hid (Lone (kh st.bits) st.LH) := q1
    clear q1
    by_cases q2 : Lone (kc st.cbits st.S) st.LC
    · have H2 : Hid (Lone (kc st.cbits st.S) st.LC) := q2
      clear q2
      go_enter_defers Tryz.func11, Tryz.ntmps11
      go_wp2_with (go_at_call 24; refine lk.mono ?_; rintro _ w' ⟨rfl, hw'⟩; have hw'' := hw'.symm; subst hw'')
      refine mh.mono ?_
      rintro _ w5 ⟨rfl, hb5⟩
      have HC5 : Hid (Below w2.heap.size w2 w5) := hb5
      have mc := HM.out w5 hb5
      rw [decide_eq_false (fun z => z H2.out)] at mc
      clear hb5 mh lk
      go_wp2_with fail
      refine mc.mono ?_
      rintro _ w6 ⟨rfl, hb6⟩
      have HC : Hid (Below w2.heap.size w2 w6) := ch HC5.out hb6
      have c41 := HN.out w6 HC.out
      clear hb6 mc
      have hx9 := HX.out.1.below HC.out
      go_wp2_with fail
      refine leaves_cons (f := 25) (args := #[.pointer (some ⟨sb, 34, none⟩)]) (by simp) (by simp [go_sem]) ?_
      refine (unlock_deferred muLib ⟨sb, 34, none⟩ .returning _ hx9.state (hx9.frozen 34)).mono ?_
      rintro e u' w'' ⟨rfl, rfl, rfl⟩
      refine ⟨_, results_tmp rfl _ _ _, ?_, ?_⟩
      · rw [bb_true H1.out H2.out]
        by_cases z : st.LF.length = 0 <;> simp [z]
      have hF := HX.out.2.2
      exact book_close2 hx9 (HX.out.2.1.trans (Turn.of_below HC.out (F := F)) (fun i q => Or.inl q)) hF
    · have H2 : Hid (¬ Lone (kc st.cbits st.S) st.LC) := q2
      clear q2
      go_enter_defers Tryz.func11, Tryz.ntmps11
      go_wp2_with (go_at_call 24; refine lk.mono ?_; rintro _ w' ⟨rfl, hw'⟩; have hw'' := hw'.symm; subst hw'')
      refine mh.mono ?_
      rintro _ w5 ⟨rfl, hb5⟩
      have HC5 : Hid (Below w2.heap.size w2 w5) := hb5
      have mc := HM.out w5 hb5
      rw [decide_eq_true H2.out] at mc
      clear hb5 mh lk
      go_wp2_with fail
      refine mc.mono ?_
      rintro _ w6 ⟨rfl, hb6⟩
      have HC : Hid (Below w2.heap.size w2 w6) := ch HC5.out hb6
      clear hb6 mc
      have hx9 := HX.out.1.below HC.out
      go_wp2_with fail
      refine leaves_cons (f := 25) (args := #[.pointer (some ⟨sb, 34, none⟩)]) (by simp) (by simp [go_sem]) ?_
      refine (unlock_deferred muLib ⟨sb, 34, none⟩ .returning _ hx9.state (hx9.frozen 34)).mono ?_
      rintro e u' w'' ⟨rfl, rfl, rfl⟩
      refine ⟨_, results_tmp rfl _ _ _, ?_, ?_⟩
      · rw [decide_eq_false H2.out]; simp
      have hF := HX.out.2.2
      exact book_close2 hx9 (HX.out.2.1.trans (Turn.of_below HC.out (F := F)) (fun i q => Or.inl q)) hF
  · rw [decide_eq_true q1] at mh
    have H1 : Hid (¬ Lone (kh st.bits) st.LH) := q1
    clear q1
    go_enter_defers Tryz.func11, Tryz.ntmps11
    go_wp2_with (go_at_call 24; refine lk.mono ?_; rintro _ w' ⟨rfl, hw'⟩; have hw'' := hw'.symm; subst hw'')
    refine mh.mono ?_
    rintro _ w5 ⟨rfl, hb5⟩
    have HC : Hid (Below w2.heap.size w2 w5) := hb5
    clear hb5 mh lk
    have hx9 := HX.out.1.below HC.out
    go_wp2_with fail
    refine leaves_cons (f := 25) (args := #[.pointer (some ⟨sb, 34, none⟩)]) (by simp) (by simp [go_sem]) ?_
    refine (unlock_deferred muLib ⟨sb, 34, none⟩ .returning _ hx9.state (hx9.frozen 34)).mono ?_
    rintro e u' w'' ⟨rfl, rfl, rfl⟩
    refine ⟨_, results_tmp rfl _ _ _, ?_, ?_⟩
    · rw [decide_eq_false H1.out]; simp
    have hF := HX.out.2.2
    exact book_close2 hx9 (HX.out.2.1.trans (Turn.of_below HC.out (F := F)) (fun i q => Or.inl q)) hF
end Go.Proofs.YtlhllbggnpcoaaaGreatDoor
