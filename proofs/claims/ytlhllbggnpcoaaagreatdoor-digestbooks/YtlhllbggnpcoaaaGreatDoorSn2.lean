import Derived.Test.YtlhllbggnpcoaaaGreatDoorRHc
/-
  A book: Len, Sound.
-/
namespace Go.Proofs.YtlhllbggnpcoaaaGreatDoor
open Go.RowKit Go.Sort Go.Maps Go.MuLone

/-- THE LOCK IS GIVEN BACK: what has become of the book. -/
theorem book_close {w w8 : World} {B sb : Nat} {st : Bst} {bh bc bf : Nat} {Fh Fc Ff F : Nat → Prop} (h : BookX w8 B sb st 1 bh bc bf Fh Fc Ff) (t : Turn F w w8) (hs : F sb) (h1 : ∀ i, F i → i = sb ∨ Fh i ∨ Fc i ∨ Ff i) (h2 : ∀ i, (Fh i ∨ Fc i ∨ Ff i) → F i ∨ w.heap.size ≤ i) :
    Turned w (w8.setCell ⟨sb, 34, none⟩ (.int .i32 0)) B sb st F := by
  refine ⟨⟨fun i => i = sb ∨ Fh i ∨ Fc i ∨ Ff i, h1, fun i q => ?_, ⟨bh, bc, bf, Fh, Fc, Ff, h.lock 0, fun i => Iff.rfl⟩⟩, t.trans (Turn.setCell w8 ⟨sb, 34, none⟩ _ (F := F) hs) (fun i q => Or.inl q)⟩
  rcases q with q | q
  · exact Or.inl (q ▸ hs)
  · exact h2 i q

set_option maxRecDepth 100000 in
set_option maxHeartbeats 1600000 in
theorem len_any4 (w : World) (B sb : Nat) (st : Bst) (F : Nat → Prop) (h : Book w B sb st F) :
    Calls Tryz.prog 7 #[.pointer (some ⟨sb, 0, none⟩)] w fun e w' => e = .returned (.tuple #[.int .i64 (st.LH.length : Nat), .int .i64 (st.LC.length : Nat)]) ∧ Turned w w' B sb st F := by
  obtain ⟨bh, bc, bf, Fh, Fc, Ff, hx, hF⟩ := h
  have lk := lock_free muLib ⟨sb, 34, none⟩ w hx.state (hx.frozen 34)
  have hx2 := hx.lock 1
  have t2 : Turn F w (w.setCell ⟨sb, 34, none⟩ (.int .i32 1)) := Turn.setCell w _ _ ((hF sb).2 (Or.inl rfl))
  obtain ⟨w2, hw2⟩ : ∃ w2, w2 = w.setCell ⟨sb, 34, none⟩ (.int .i32 1) := ⟨_, rfl⟩
  rw [← hw2] at lk hx2 t2
  have s1 := fun (d : Nat) (os : Array Obj) => cell_regrown hx2.natH.cnt d os
  have s2 := fun (d : Nat) (os : Array Obj) => cell_regrown hx2.natC.cnt d os
  simp only [Nat.reduceAdd] at s1 s2
  have HX : Hid (BookX w2 B sb st 1 bh bc bf Fh Fc Ff ∧ Turn F w w2 ∧ (∀ i, F i ↔ i = sb ∨ Fh i ∨ Fc i ∨ Ff i)) := ⟨hx2, t2, hF⟩
  generalize st.LH.length = n1 at s1 ⊢
  generalize st.LC.length = n2 at s2 ⊢
  clear hx hx2 hF t2 hw2
  go_enter_defers Tryz.func7, Tryz.ntmps7
  go_wp2_with (go_at_call 24; refine lk.mono ?_; rintro _ w' ⟨rfl, hw'⟩; have hw'' := hw'.symm; subst hw'')
  refine wp_region_quiet_below (by kernel_rfl) (by kernel_rfl) ?_
  repeat (first | go_big_quiet_step (fail) | quiet_step (fail))
  refine wpQuiet_nil ?_
  intro w9 hw'
  obtain ⟨⟨dq, osq⟩, hw''⟩ := hw'
  have HC : Hid (Below w2.heap.size w2 w9) := by rw [hw'']; exact below_regrown w2 dq osq
  clear hw'' s1 s2 lk
  have hx9 := HX.out.1.below HC.out
  go_wp2_with fail
  refine leaves_cons (f := 25) (args := #[.pointer (some ⟨sb, 34, none⟩)]) (by simp) (by simp [go_sem]) ?_
  refine (unlock_deferred muLib ⟨sb, 34, none⟩ .returning _ hx9.state (hx9.frozen 34)).mono ?_
  rintro e u' w'' ⟨rfl, rfl, rfl⟩
  refine ⟨_, results_tmp2 rfl _ _ _, rfl, ?_⟩
  have hF := HX.out.2.2
  exact book_close hx9 (HX.out.2.1.trans (Turn.of_below HC.out (F := F)) (fun i q => Or.inl q)) ((hF sb).2 (Or.inl rfl)) (fun i q => (hF i).1 q) (fun i q => Or.inl ((hF i).2 (Or.inr q)))

theorem bb_true {a b c : Prop} [Decidable a] [Decidable b] [Decidable c] (ha : a) (hb : b) : (decide a && decide b && decide c) = decide c := by rw [decide_eq_true ha, decide_eq_true hb]; rfl

set_option maxRecDepth 100000 in
set_option maxHeartbeats 1600000 in
theorem sound_any (w : World) (B sb : Nat) (st : Bst) (F : Nat → Prop) (h : Book w B sb st F) :
    Calls Tryz.prog 11 #[.pointer (some ⟨sb, 0, none⟩)] w fun e w' => e = .returned (.bool (decide (Lone (kh st.bits) st.LH) && decide (Lone (kc st.cbits st.S) st.LC) && decide (st.LF.length = 0))) ∧ Turned w w' B sb st F := by
  obtain ⟨bh, bc, bf, Fh, Fc, Ff, hx, hF⟩ := h
  have lk := lock_free muLib ⟨sb, 34, none⟩ w hx.state (hx.frozen 34)
  have hx2 := hx.lock 1
  have t2 : Turn F w (w.setCell ⟨sb, 34, none⟩ (.int .i32 1)) := Turn.setCell w _ _ ((hF sb).2 (Or.inl rfl))
  obtain ⟨w2, hw2⟩ : ∃ w2, w2 = w.setCell ⟨sb, 34, none⟩ (.int .i32 1) := ⟨_, rfl⟩
  rw [← hw2] at lk hx2 t2
  have HX : Hid (BookX w2 B sb st 1 bh bc bf Fh Fc Ff ∧ Turn F w w2 ∧ (∀ i, F i ↔ i = sb ∨ Fh i ∨ Fc i ∨ Ff i)) := ⟨hx2, t2, hF⟩
  have mh := met_any w2 sb 36 bh Fh (kh st.bits) st.LH hx2.natH
  have HM : Hid (∀ w', Below w2.heap.size w2 w' → Calls Tryz.prog 32 #[.pointer (some ⟨sb, 38, none⟩)] w' fun e w'' => e = .returned (.bool (decide (¬ Lone (kc st.cbits st.S) st.LC))) ∧ Below w'.heap.size w' w'') := fun w' hb => met_any w' sb 38 bc Fc (kc st.cbits st.S) st.LC (hx2.below hb).natC
  have HN : Hid (∀ w', Below w2.heap.size w2 w' → w'.cell? ⟨sb, 41, none⟩ = some (.int .i64 (st.LF.length : Nat))) := fun w' hb => (hx2.below hb).natF.cnt
  clear hx hx2 hF t2 hw2
  by_cases q1 : Lone (kh st.bits) st.LH
  · rw [decide_eq_false (fun z => z q1)] at mh
    have H1 : Hid (Lone (kh st.bits) st.LH) := q1
    clear q1
    by_cases q2 : Lone (kc st.cbits st.S) st.LC
    · have H2 : Hid (Lone (kc st.cbits st.S) st.LC) := q2
      clear q2
      go_enter_defers Tryz.func11, Tryz.ntmps11
      go_wp2_with (go_at_call 24; refine lk.mono ?_; rintro _ w' ⟨rfl, hw'⟩; have hw'' := hw'.symm; subst hw'')
      refine mh.mono ?_
      rintro _ w5 ⟨rfl, hb5⟩
      have HC5 : Hid (Below w2.heap.size w2 w5) := hb5
      have mc := HM.out w5 hb5
      rw [decide_eq_false (fun z => z H2.out)] at mc
      clear hb5 mh lk
      go_wp2_with fail
      refine mc.mono ?_
      rintro _ w6 ⟨rfl, hb6⟩
      have HC : Hid (Below w2.heap.size w2 w6) := ch HC5.out hb6
      have c41 := HN.out w6 HC.out
      clear hb6 mc
      have hx9 := HX.out.1.below HC.out
      go_wp2_with fail
      refine leaves_cons (f := 25) (args := #[.pointer (some ⟨sb, 34, none⟩)]) (by simp) (by simp [go_sem]) ?_
      refine (unlock_deferred muLib ⟨sb, 34, none⟩ .returning _ hx9.state (hx9.frozen 34)).mono ?_
      rintro e u' w'' ⟨rfl, rfl, rfl⟩
      refine ⟨_, results_tmp rfl _ _ _, ?_, ?_⟩
      · rw [bb_true H1.out H2.out]
        by_cases z : st.LF.length = 0 <;> simp [z]
      have hF := HX.out.2.2
      exact book_close hx9 (HX.out.2.1.trans (Turn.of_below HC.out (F := F)) (fun i q => Or.inl q)) ((hF sb).2 (Or.inl rfl)) (fun i q => (hF i).1 q) (fun i q => Or.inl ((hF i).2 (Or.inr q)))
    · have H2 : Hid (¬ Lone (kc st.cbits st.S) st.LC) := q2
      clear q2
      go_enter_defers Tryz.func11, Tryz.ntmps11
      go_wp2_with (go_at_call 24; refine lk.mono ?_; rintro _ w' ⟨rfl, hw'⟩; have hw'' := hw'.symm; subst hw'')
      refine mh.mono ?_
      rintro _ w5 ⟨rfl, hb5⟩
      have HC5 : Hid (Below w2.heap.size w2 w5) := hb5
      have mc := HM.out w5 hb5
      rw [decide_eq_true H2.out] at mc
      clear hb5 mh lk
      go_wp2_with fail
      refine mc.mono ?_
      rintro _ w6 ⟨rfl, hb6⟩
      have HC : Hid (Below w2.heap.size w2 w6) := ch HC5.out hb6
      clear hb6 mc
      have hx9 := HX.out.1.below HC.out
      go_wp2_with fail
      refine leaves_cons (f := 25) (args := #[.pointer (some ⟨sb, 34, none⟩)]) (by simp) (by simp [go_sem]) ?_
      refine (unlock_deferred muLib ⟨sb, 34, none⟩ .returning _ hx9.state (hx9.frozen 34)).mono ?_
      rintro e u' w'' ⟨rfl, rfl, rfl⟩
      refine ⟨_, results_tmp rfl _ _ _, ?_, ?_⟩
      · rw [decide_eq_false H2.out]; simp
      have hF := HX.out.2.2
      exact book_close hx9 (HX.out.2.1.trans (Turn.of_below HC.out (F := F)) (fun i q => Or.inl q)) ((hF sb).2 (Or.inl rfl)) (fun i q => (hF i).1 q) (fun i q => Or.inl ((hF i).2 (Or.inr q)))
  · rw [decide_eq_true q1] at mh
    have H1 : Hid (¬ Lone (kh st.bits) st.LH) := q1
    clear q1
    go_enter_defers Tryz.func11, Tryz.ntmps11
    go_wp2_with (go_at_call 24; refine lk.mono ?_; rintro _ w' ⟨rfl, hw'⟩; have hw'' := hw'.symm; subst hw'')
    refine mh.mono ?_
    rintro _ w5 ⟨rfl, hb5⟩
    have HC : Hid (Below w2.heap.size w2 w5) := hb5
    clear hb5 mh lk
    have hx9 := HX.out.1.below HC.out
    go_wp2_with fail
    refine leaves_cons (f := 25) (args := #[.pointer (some ⟨sb, 34, none⟩)]) (by simp) (by simp [go_sem]) ?_
    refine (unlock_deferred muLib ⟨sb, 34, none⟩ .returning _ hx9.state (hx9.frozen 34)).mono ?_
    rintro e u' w'' ⟨rfl, rfl, rfl⟩
    refine ⟨_, results_tmp rfl _ _ _, ?_, ?_⟩
    · rw [decide_eq_false H1.out]; simp
    have hF := HX.out.2.2
    exact book_close hx9 (HX.out.2.1.trans (Turn.of_below HC.out (F := F)) (fun i q => Or.inl q)) ((hF sb).2 (Or.inl rfl)) (fun i q => (hF i).1 q) (fun i q => Or.inl ((hF i).2 (Or.inr q)))
end Go.Proofs.YtlhllbggnpcoaaaGreatDoor

/-
  A book: Code.
-/
namespace Go.Proofs.YtlhllbggnpcoaaaGreatDoor
open Go.RowKit Go.Sort Go.Maps Go.MuLone

set_option maxRecDepth 100000 in
set_option maxHeartbeats 4000000 in
theorem code_any4 (w : World) (B sb : Nat) (st : Bst) (F : Nat → Prop) (h : Book w B sb st F) (hG : Ground w) (hB : 2 < B) (hL : st.LC.length ≤ 549755813888)
    (a : Option Addr) (b off c : Nat) (t : List Nat) (ht : Vw w a b off t) (hc : t.length ≤ c) (hs : t.length ≤ 140737488355328) (hf : 0 < t.length → ¬ F b) :
    Calls Tryz.prog 9 #[.pointer (some ⟨sb, 0, none⟩), .slice a t.length c] w fun e w' => e = .returned (.agg (hA (kc st.cbits st.S t))) ∧ Turned w w' B sb { st with LC := ins t st.LC } F := by
  have z64 := (zero_of_info infoH).1
  have hFB : ∀ i, F i → 2 < i := fun i q => by have := (h.lim i q).1; omega
  obtain ⟨bh, bc, bf, Fh, Fc, Ff, hx, hF⟩ := h
  have b1 : Below w.heap.size w (w.alloc (.cells Z32 31)) := (Below.refl _ _).alloc (Nat.le_refl _) _
  have hr1 : (w.alloc (.cells Z32 31)).heap[w.heap.size]? = some (.cells Z32 31 (0, 0)) := heap_alloc_new _ _
  obtain ⟨w1, hw1⟩ : ∃ w1, w1 = w.alloc (.cells Z32 31) := ⟨_, rfl⟩
  rw [← hw1] at b1 hr1
  have hl1 : w.heap.size < w1.heap.size := (Array.getElem?_eq_some_iff.1 hr1).1
  have hx1 := hx.below b1
  have lk := lock_free muLib ⟨sb, 34, none⟩ w1 hx1.state (hx1.frozen 34)
  have hx2 := hx1.lock 1
  have hFs : F sb := (hF sb).2 (Or.inl rfl)
  have t2 : Turn (fun i => i = sb) w1 (w1.setCell ⟨sb, 34, none⟩ (.int .i32 1)) := Turn.setCell w1 _ _ rfl
  obtain ⟨w2, hw2⟩ : ∃ w2, w2 = w1.setCell ⟨sb, 34, none⟩ (.int .i32 1) := ⟨_, rfl⟩
  rw [← hw2] at lk hx2 t2
  have tF : Turn F w w2 := (Turn.of_below b1 (F := F)).trans t2 (fun i q => Or.inl (q ▸ hFs))
  have hG2 : Ground w2 := hG.turn tF hFB
  have hsl : sb < w.heap.size := hx.lt
  have hr2 : w2.heap[w.heap.size]? = some (.cells Z32 31 (0, 0)) := (t2.block _ hl1 (by omega)).trans hr1
  have ht2 : Vw w2 a b off t := ht.turn tF hf
  have hl2 : w.heap.size < w2.heap.size := Nat.lt_of_lt_of_le hl1 t2.size
  have hlim : ∀ i, F i → i < w.heap.size := fun i q => by
    rcases (hF i).1 q with e | q
    · exact e ▸ hsl
    · exact hx.lim i q
  have HX : Hid (BookX w2 B sb st 1 bh bc bf Fh Fc Ff ∧ Turn F w w2 ∧ (∀ i, F i ↔ i = sb ∨ Fh i ∨ Fc i ∨ Ff i) ∧ Ground w2 ∧ w2.heap[w.heap.size]? = some (.cells Z32 31 (0, 0)) ∧ Vw w2 a b off t ∧ w.heap.size < w2.heap.size ∧ (∀ i, F i → i < w.heap.size)) := ⟨hx2, tF, hF, hG2, hr2, ht2, hl2, hlim⟩
  have HC : Hid (t.length ≤ c) := hc
  have hk := kc_isH st.cbits st.S t
  obtain ⟨k, hkk⟩ : ∃ k, k = kc st.cbits st.S t := ⟨_, rfl⟩
  have HK : Hid (k = kc st.cbits st.S t) := hkk
  rw [← hkk] at hk ⊢
  have cd := codeOf_any w2 B sb st 1 bh bc bf Fh Fc Ff hx2 hG2 a b off c t ht2 hc
  rw [← hkk] at cd
  obtain ⟨m, hm⟩ : ∃ m, m = t.length := ⟨_, rfl⟩
  have HM : Hid (m = t.length) := hm
  rw [← hm] at cd hs hc ⊢
  clear hx hx1 hx2 hF hG hG2 tF t2 hkk hm ht ht2 b1 hr1 hr2 hFB hFs hl1 hl2 hlim hsl hw2 hf
  go_enter_defers Tryz.func9, Tryz.ntmps9
  go_wp2_with (go_at_call 24; rw [← hw1]; refine lk.mono ?_; rintro _ w' ⟨rfl, hw'⟩; have hw'' := hw'.symm; subst hw'')
  refine cd.mono ?_
  rintro _ w3 ⟨rfl, hb3⟩
  have hbx : ((w3.alloc (.cells Z32 31)).setRow w3.heap.size (hA k)).heap[w3.heap.size]? = some (.cells (hA k) 31 (0, 0)) := setRow_heap _ _ _ _ _ _ (heap_alloc_new _ _)
  have b24 : Below w2.heap.size w2 ((w3.alloc (.cells Z32 31)).setRow w3.heap.size (hA k)) := below_setRow (hb3.alloc hb3.size _) hb3.size _
  obtain ⟨w4, hw4⟩ : ∃ w4, w4 = (w3.alloc (.cells Z32 31)).setRow w3.heap.size (hA k) := ⟨_, rfl⟩
  obtain ⟨hx0, hhx⟩ : ∃ x, x = w3.heap.size := ⟨_, rfl⟩
  rw [← hw4, ← hhx] at hbx
  rw [← hw4] at b24
  have HT : Hid (BookX w4 B sb st 1 bh bc bf Fh Fc Ff ∧ Turn F w w4 ∧ w4.heap[hx0]? = some (.cells (hA k) 31 (0, 0)) ∧ w4.heap[w.heap.size]? = some (.cells Z32 31 (0, 0)) ∧ w.heap.size ≤ hx0 ∧ hx0 < w4.heap.size ∧ Vw w4 a b off t ∧ w2.heap.size ≤ w4.heap.size) :=
    ⟨HX.out.1.below b24, HX.out.2.1.trans (Turn.of_below b24 (F := F)) (fun i q => Or.inl q), hbx, (b24.block _ HX.out.2.2.2.2.2.2.1).trans HX.out.2.2.2.2.1, by rw [hhx]; exact Nat.le_trans (Nat.le_of_lt HX.out.2.2.2.2.2.2.1) hb3.size, (Array.getElem?_eq_some_iff.1 hbx).1, HX.out.2.2.2.2.2.1.below b24, b24.size⟩
  clear hbx b24 hb3 cd lk
  go_wp2_with (refine wpList_store_row (by rfl) 31 (.tmp 5) (.tmp 18) (by rfl) w3.heap.size (hA k) (by rfl) (by rfl) 31 Z32 (heap_alloc_new _ _) (hA_info hk) (hA_Z32 hk) (hA_one hk) ?_)
  rw [← hw4, ← hhx]
  clear hw4 hhx
  have bd4 : Below w4.heap.size w4 w4.drew := (Below.refl _ _).drew
  have hx4 := HT.out.1.below bd4
  have ad := add_any w4.drew sb 38 bc Fc (kc st.cbits st.S) st.LC hx4.natC hL a b off c t (HT.out.2.2.2.2.2.2.1.below bd4) (by rw [← HK.out]; exact hk) (by rw [← HM.out]; exact hs)
  rw [← HK.out, ← HM.out] at ad
  have s0 : w4.drew.rangeAt hx0 0 (bv k) := range_box HT.out.2.2.1
  have HZ : Hid (∀ w5, Turn (fun i => Fc i ∨ i = sb) w4.drew w5 → w5.heap[hx0]? = some (.cells (hA k) 31 (0, 0)) ∧ w5.heap[w.heap.size]? = some (.cells Z32 31 (0, 0))) := by
    intro w5 t5
    have hF := HX.out.2.2.1
    have hlm := HX.out.2.2.2.2.2.2.2
    have no : ∀ i, w.heap.size ≤ i → ¬ (Fc i ∨ i = sb) := fun i hi q => by
      have : F i := (hF i).2 (by rcases q with q | q; exact Or.inr (Or.inr (Or.inl q)); exact Or.inl q)
      have := hlm i this
      omega
    exact ⟨(t5.block hx0 HT.out.2.2.2.2.2.1 (no hx0 HT.out.2.2.2.2.1)).trans HT.out.2.2.1, (t5.block w.heap.size (Nat.lt_of_lt_of_le HX.out.2.2.2.2.2.2.1 HT.out.2.2.2.2.2.2.2) (no _ (Nat.le_refl _))).trans HT.out.2.2.2.1⟩
  clear hx4 bd4
  refine wp_region_noPanic ?_
  refine wp_region_held_drew (S := fun w' => w'.rangeAt hx0 0 (bv k)) (by kernel_rfl) s0 ?_
  intro hS
  clear s0
  change wpAnyH _ _ _ _ _ 6 _ _ _
  refine wpAnyH_take (i := 0) (v := ?_) (by simp only [List.getElem?_toArray, List.getElem?_cons_zero]; rfl) (by kernel_rfl) (by kernel_rfl) (by kernel_rfl) (by exact fun _ _ _ h => h) (Or.inl ⟨by rfl, ?_⟩) hS ?_
  rotate_left
  · intro w' hS'
    go_simp
    try with_reducible rfl
  refine wpAnyH_take (i := 1) (v := ?_) (by simp only [List.getElem?_toArray, List.getElem?_cons_zero, List.getElem?_cons_succ]; rfl) (by kernel_rfl) (by kernel_rfl) (by kernel_rfl) (by exact fun _ _ _ h => h) (Or.inl ⟨by rfl, ?_⟩) hS ?_
  rotate_left
  · intro w' hS'
    go_simp
    try with_reducible rfl
  refine wpAnyH_take (i := 2) (v := ?_) (by simp only [List.getElem?_toArray, List.getElem?_cons_zero, List.getElem?_cons_succ]; rfl) (by kernel_rfl) (by kernel_rfl) (by kernel_rfl) (by exact fun _ _ _ h => h) (Or.inl ⟨by rfl, ?_⟩) hS ?_
  rotate_left
  · intro w' hS'
    go_simp
    try with_reducible rfl
  refine wpAnyH_take (i := 3) (by simp only [List.getElem?_toArray, List.getElem?_cons_zero, List.getElem?_cons_succ]; rfl) (by kernel_rfl) (by kernel_rfl) (by kernel_rfl) (by exact fun _ _ _ h => h) (yieldsIf_load_mid (by rfl) _ _ rfl _ _ rfl _ _ (fun _ h => h) Tryz.underlying31 rfl (hL_len hk)) hS ?_
  try simp only [Act.put, List.setIfInBounds_toArray, List.set_cons_zero, List.set_cons_succ]
  refine wpAnyH_take (i := 4) (v := ?_) (by simp only [List.getElem?_toArray, List.getElem?_cons_zero, List.getElem?_cons_succ]; rfl) (by kernel_rfl) (by kernel_rfl) (by kernel_rfl) (by exact fun _ _ _ h => h) (Or.inl ⟨by rfl, ?_⟩) hS ?_
  rotate_left
  · intro w' hS'
    go_simp
    try with_reducible rfl
  refine wpAnyH_ready (rs := [5]) (by kernel_rfl) (by simp) ?_
  refine AllReadyH.cons (by simp only [List.getElem?_toArray, List.getElem?_cons_zero, List.getElem?_cons_succ]; rfl) (fun K hK => ?_) AllReadyH.nil
  go_simp
  refine ad.mono ?_
  rintro _ w5 ⟨rfl, ad5⟩
  have HA : Hid (Added w4.drew w5 sb 38 bc Fc (kc st.cbits st.S) (ins t st.LC)) := ad5
  have hz := HZ.out w5 ad5.turn
  have hb5 := hz.1
  have hr5 := hz.2
  refine hK.out _ _ (range_box hb5) (fun _ => ?_)
  clear hK K ad5 ad hz HZ
  refine wpAnyH_done (by kernel_rfl) (NoPanic.normal ?_) _
  try simp only [Act.put, List.setIfInBounds_toArray, List.set_cons_zero, List.set_cons_succ]
  have HR : Hid (w5.heap[w.heap.size]? = some (.cells Z32 31 (0, 0))) := hr5
  go_wp2_with (first
    | refine wpList_load_row (by rfl) 31 (.tmp 5) (by rfl) hx0 (by rfl) 31 (hA k) (0, 0) _ hb5 Tryz.underlying31 (by rfl) (hA_info hk) ?_
    | refine wpList_store_row (by rfl) 31 (.tmp 4) (.tmp 25) (by rfl) w.heap.size (hA k) (by rfl) (by rfl) 31 Z32 hr5 (hA_info hk) (hA_Z32 hk) (hA_one hk) ?_)
  obtain ⟨F', f1, f2, hx5⟩ := BookX.addedC (HT.out.1.below ((Below.refl _ _).drew)) HA.out
  have hF := HX.out.2.2.1
  have hlm := HX.out.2.2.2.2.2.2.2
  have hs4 : w2.heap.size ≤ w4.heap.size := HT.out.2.2.2.2.2.2.2
  have hsl : sb < w.heap.size := hlm sb ((hF sb).2 (Or.inl rfl))
  have tr : Turn (fun i => i = w.heap.size) w5 (w5.setRow w.heap.size (hA k)) := Turn.setRow w5 _ _ rfl
  have nof : ∀ i, F' i → i ≠ w.heap.size := fun i q e => by
    rcases f2 i q with z | z
    · have := hlm i ((hF i).2 (Or.inr (Or.inr (Or.inl z))))
      omega
    · have := HX.out.2.2.2.2.2.2.1
      have e2 : w4.drew.heap.size = w4.heap.size := rfl
      omega
  have hx6 := hx5.turn tr (by omega) (fun i q => by
    rcases q with q | q | q
    · intro e; have := hlm i ((hF i).2 (Or.inr (Or.inl q))); omega
    · exact nof i q
    · intro e; have := hlm i ((hF i).2 (Or.inr (Or.inr (Or.inr q)))); omega)
  have t6 : Turn F w (w5.setRow w.heap.size (hA k)) := by
    have ta : Turn F w w4 := HT.out.2.1
    have tb : Turn F w w4.drew := ta.trans (Turn.drew w4 (F := F)) (fun i q => Or.inl q)
    have tc : Turn F w w5 := tb.trans HA.out.turn (fun i q => Or.inl ((hF i).2 (by rcases q with q | q; exact Or.inr (Or.inr (Or.inl q)); exact Or.inl q)))
    exact tc.trans tr (fun i q => Or.inr (by omega))
  refine leaves_cons (f := 25) (args := #[.pointer (some ⟨sb, 34, none⟩)]) (by simp) (by simp [go_sem]) ?_
  refine (unlock_deferred muLib ⟨sb, 34, none⟩ .returning _ hx6.state (hx6.frozen 34)).mono ?_
  rintro e u' w'' ⟨rfl, rfl, rfl⟩
  have hres : ((w5.setRow w.heap.size (hA k)).setCell ⟨sb, 34, none⟩ (.int .i32 0)).heap[w.heap.size]? = some (.cells (hA k) 31 (0, 0)) := (Below.heap_setCell _ _ _ _ (by show w.heap.size ≠ sb; omega)).trans (setRow_heap _ _ _ _ _ _ HR.out)
  refine ⟨_, results_cell_row rfl _ _ w.heap.size 31 (hA k) (0, 0) _ rfl hres Tryz.underlying31 rfl (hA_info hk), rfl, ?_⟩
  refine book_close hx6 t6 ((hF sb).2 (Or.inl rfl)) (fun i q => ?_) (fun i q => ?_)
  · rcases (hF i).1 q with e | q | q | q
    · exact Or.inl e
    · exact Or.inr (Or.inl q)
    · exact Or.inr (Or.inr (Or.inl (f1 i q)))
    · exact Or.inr (Or.inr (Or.inr q))
  · rcases q with q | q | q
    · exact Or.inl ((hF i).2 (Or.inr (Or.inl q)))
    · rcases f2 i q with z | z
      · exact Or.inl ((hF i).2 (Or.inr (Or.inr (Or.inl z))))
      · exact Or.inr (by have e2 : w4.drew.heap.size = w4.heap.size := rfl; have := HX.out.2.2.2.2.2.2.1; omega)
    · exact Or.inl ((hF i).2 (Or.inr (Or.inr (Or.inr q))))
end Go.Proofs.YtlhllbggnpcoaaaGreatDoor

/-
  A book: Len, Sound, and what they leave.
-/
namespace Go.Proofs.YtlhllbggnpcoaaaGreatDoor
open Go.RowKit Go.Sort Go.Maps Go.MuLone

theorem book_close2 {w w8 : World} {B sb : Nat} {st : Bst} {bh bc bf : Nat} {Fh Fc Ff F : Nat → Prop} (h : BookX w8 B sb st 1 bh bc bf Fh Fc Ff) (t : Turn F w w8) (hF : ∀ i, F i ↔ i = sb ∨ Fh i ∨ Fc i ∨ Ff i) : Book (w8.setCell ⟨sb, 34, none⟩ (.int .i32 0)) B sb st F ∧ Turn F w (w8.setCell ⟨sb, 34, none⟩ (.int .i32 0)) :=
  ⟨⟨bh, bc, bf, Fh, Fc, Ff, h.lock 0, hF⟩, t.trans (Turn.setCell w8 ⟨sb, 34, none⟩ _ (F := F) ((hF sb).2 (Or.inl rfl))) (fun _ q => Or.inl q)⟩

set_option maxRecDepth 100000 in
set_option maxHeartbeats 1600000 in
theorem len_any5 (w : World) (B sb : Nat) (st : Bst) (F : Nat → Prop) (h : Book w B sb st F) :
    Calls Tryz.prog 7 #[.pointer (some ⟨sb, 0, none⟩)] w fun e w' => e = .returned (.tuple #[.int .i64 (st.LH.length : Nat), .int .i64 (st.LC.length : Nat)]) ∧ Book w' B sb st F ∧ Turn F w w' := by
  obtain ⟨bh, bc, bf, Fh, Fc, Ff, hx, hF⟩ := h
  have lk := lock_free muLib ⟨sb, 34, none⟩ w hx.state (hx.frozen 34)
  have hx2 := hx.lock 1
  have t2 : Turn F w (w.setCell ⟨sb, 34, none⟩ (.int .i32 1)) := Turn.setCell w _ _ ((hF sb).2 (Or.inl rfl))
  obtain ⟨w2, hw2⟩ : ∃ w2, w2 = w.setCell ⟨sb, 34, none⟩ (.int .i32 1) := ⟨_, rfl⟩
  rw [← hw2] at lk hx2 t2
  have s1 := fun (d : Nat) (os : Array Obj) => cell_regrown hx2.natH.cnt d os
  have s2 := fun (d : Nat) (os : Array Obj) => cell_regrown hx2.natC.cnt d os
  simp only [Nat.reduceAdd] at s1 s2
  have HX : Hid (BookX w2 B sb st 1 bh bc bf Fh Fc Ff ∧ Turn F w w2 ∧ (∀ i, F i ↔ i = sb ∨ Fh i ∨ Fc i ∨ Ff i)) := ⟨hx2, t2, hF⟩
  generalize st.LH.length = n1 at s1 ⊢
  generalize st.LC.length = n2 at s2 ⊢
  clear hx hx2 hF t2 hw2
  go_enter_defers Tryz.func7, Tryz.ntmps7
  go_wp2_with (go_at_call 24; refine lk.mono ?_; rintro _ w' ⟨rfl, hw'⟩; have hw'' := hw'.symm; subst hw'')
  refine wp_region_quiet_below (by kernel_rfl) (by kernel_rfl) ?_
  repeat (first | go_big_quiet_step (fail) | quiet_step (fail))
  refine wpQuiet_nil ?_
  intro w9 hw'
  obtain ⟨⟨dq, osq⟩, hw''⟩ := hw'
  have HC : Hid (Below w2.heap.size w2 w9) := by rw [hw'']; exact below_regrown w2 dq osq
  clear hw'' s1 s2 lk
  have hx9 := HX.out.1.below HC.out
  go_wp2_with fail
  refine leaves_cons (f := 25) (args := #[.pointer (some ⟨sb, 34, none⟩)]) (by simp) (by simp [go_sem]) ?_
  refine (unlock_deferred muLib ⟨sb, 34, none⟩ .returning _ hx9.state (hx9.frozen 34)).mono ?_
  rintro e u' w'' ⟨rfl, rfl, rfl⟩
  refine ⟨_, results_tmp2 rfl _ _ _, rfl, ?_⟩
  have hF := HX.out.2.2
  exact book_close2 hx9 (HX.out.2.1.trans (Turn.of_below HC.out (F := F)) (fun i q => Or.inl q)) hF

set_option maxRecDepth 100000 in
set_option maxHeartbeats 1600000 in
theorem sound_any5 (w : World) (B sb : Nat) (st : Bst) (F : Nat → Prop) (h : Book w B sb st F) :
    Calls Tryz.prog 11 #[.pointer (some ⟨sb, 0, none⟩)] w fun e w' => e = .returned (.bool (decide (Lone (kh st.bits) st.LH) && decide (Lone (kc st.cbits st.S) st.LC) && decide (st.LF.length = 0))) ∧ Book w' B sb st F ∧ Turn F w w' := by
  obtain ⟨bh, bc, bf, Fh, Fc, Ff, hx, hF⟩ := h
  have lk := lock_free muLib ⟨sb, 34, none⟩ w hx.state (hx.frozen 34)
  have hx2 := hx.lock 1
  have t2 : Turn F w (w.setCell ⟨sb, 34, none⟩ (.int .i32 1)) := Turn.setCell w _ _ ((hF sb).2 (Or.inl rfl))
  obtain ⟨w2, hw2⟩ : ∃ w2, w2 = w.setCell ⟨sb, 34, none⟩ (.int .i32 1) := ⟨_, rfl⟩
  rw [← hw2] at lk hx2 t2
  have HX : Hid (BookX w2 B sb st 1 bh bc bf Fh Fc Ff ∧ Turn F w w2 ∧ (∀ i, F i ↔ i = sb ∨ Fh i ∨ Fc i ∨ Ff i)) := ⟨hx2, t2, hF⟩
  have mh := met_any w2 sb 36 bh Fh (kh st.bits) st.LH hx2.natH
  have HM : Hid (∀ w', Below w2.heap.size w2 w' → Calls Tryz.prog 32 #[.pointer (some ⟨sb, 38, none⟩)] w' fun e w'' => e = .returned (.bool (decide (¬ Lone (kc st.cbits st.S) st.LC))) ∧ Below w'.heap.size w' w'') := fun w' hb => met_any w' sb 38 bc Fc (kc st.cbits st.S) st.LC (hx2.below hb).natC
  have HN : Hid (∀ w', Below w2.heap.size w2 w' → w'.cell? ⟨sb, 41, none⟩ = some (.int .i64 (st.LF.length : Nat))) := fun w' hb => (hx2.below hb).natF.cnt
  clear hx hx2 hF t2 hw2
  by_cases q1 : Lone (kh st.bits) st.LH
  · rw [decide_eq_false (fun z => z q1)] at mh
    have H1 : Hid (Lone (kh st.bits) st.LH) := q1
    clear q1
    by_cases q2 : Lone (kc st.cbits st.S) st.LC
    · have H2 : Hid (Lone (kc st.cbits st.S) st.LC) := q2
      clear q2
      go_enter_defers Tryz.func11, Tryz.ntmps11
      go_wp2_with (go_at_call 24; refine lk.mono ?_; rintro _ w' ⟨rfl, hw'⟩; have hw'' := hw'.symm; subst hw'')
      refine mh.mono ?_
      rintro _ w5 ⟨rfl, hb5⟩
      have HC5 : Hid (Below w2.heap.size w2 w5) := hb5
      have mc := HM.out w5 hb5
      rw [decide_eq_false (fun z => z H2.out)] at mc
      clear hb5 mh lk
      go_wp2_with fail
      refine mc.mono ?_
      rintro _ w6 ⟨rfl, hb6⟩
      have HC : Hid (Below w2.heap.size w2 w6) := ch HC5.out hb6
      have c41 := HN.out w6 HC.out
      clear hb6 mc
      have hx9 := HX.out.1.below HC.out
      go_wp2_with fail
      refine leaves_cons (f := 25) (args := #[.pointer (some ⟨sb, 34, none⟩)]) (by simp) (by simp [go_sem]) ?_
      refine (unlock_deferred muLib ⟨sb, 34, none⟩ .returning _ hx9.state (hx9.frozen 34)).mono ?_
      rintro e u' w'' ⟨rfl, rfl, rfl⟩
      refine ⟨_, results_tmp rfl _ _ _, ?_, ?_⟩
      · rw [bb_true H1.out H2.out]
        by_cases z : st.LF.length = 0 <;> simp [z]
      have hF := HX.out.2.2
      exact book_close2 hx9 (HX.out.2.1.trans (Turn.of_below HC.out (F := F)) (fun i q => Or.inl q)) hF
    · have H2 : Hid (¬ Lone (kc st.cbits st.S) st.LC) := q2
      clear q2
      go_enter_defers Tryz.func11, Tryz.ntmps11
      go_wp2_with (go_at_call 24; refine lk.mono ?_; rintro _ w' ⟨rfl, hw'⟩; have hw'' := hw'.symm; subst hw'')
      refine mh.mono ?_
      rintro _ w5 ⟨rfl, hb5⟩
      have HC5 : Hid (Below w2.heap.size w2 w5) := hb5
      have mc := HM.out w5 hb5
      rw [decide_eq_true H2.out] at mc
      clear hb5 mh lk
      go_wp2_with fail
      refine mc.mono ?_
      rintro _ w6 ⟨rfl, hb6⟩
      have HC : Hid (Below w2.heap.size w2 w6) := ch HC5.out hb6
      clear hb6 mc
      have hx9 := HX.out.1.below HC.out
      go_wp2_with fail
      refine leaves_cons (f := 25) (args := #[.pointer (some ⟨sb, 34, none⟩)]) (by simp) (by simp [go_sem]) ?_
      refine (unlock_deferred muLib ⟨sb, 34, none⟩ .returning _ hx9.state (hx9.frozen 34)).mono ?_
      rintro e u' w'' ⟨rfl, rfl, rfl⟩
      refine ⟨_, results_tmp rfl _ _ _, ?_, ?_⟩
      · rw [decide_eq_false H2.out]; simp
      have hF := HX.out.2.2
      exact book_close2 hx9 (HX.out.2.1.trans (Turn.of_below HC.out (F := F)) (fun i q => Or.inl q)) hF
  · rw [decide_eq_true q1] at mh
    have H1 : Hid (¬ Lone (kh st.bits) st.LH) := q1
    clear q1
    go_enter_defers Tryz.func11, Tryz.ntmps11
    go_wp2_with (go_at_call 24; refine lk.mono ?_; rintro _ w' ⟨rfl, hw'⟩; have hw'' := hw'.symm; subst hw'')
    refine mh.mono ?_
    rintro _ w5 ⟨rfl, hb5⟩
    have HC : Hid (Below w2.heap.size w2 w5) := hb5
    clear hb5 mh lk
    have hx9 := HX.out.1.below HC.out
    go_wp2_with fail
    refine leaves_cons (f := 25) (args := #[.pointer (some ⟨sb, 34, none⟩)]) (by simp) (by simp [go_sem]) ?_
    refine (unlock_deferred muLib ⟨sb, 34, none⟩ .returning _ hx9.state (hx9.frozen 34)).mono ?_
    rintro e u' w'' ⟨rfl, rfl, rfl⟩
    refine ⟨_, results_tmp rfl _ _ _, ?_, ?_⟩
    · rw [decide_eq_false H1.out]; simp
    have hF := HX.out.2.2
    exact book_close2 hx9 (HX.out.2.1.trans (Turn.of_below HC.out (F := F)) (fun i q => Or.inl q)) hF
end Go.Proofs.YtlhllbggnpcoaaaGreatDoor
