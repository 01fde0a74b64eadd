import Derived.Test.YtlhllbggnpcoaaaGreatDoorHsh
import Derived.Test.YtlhllbggnpcoaaaGreatDoorSn2
/-
  A book: Accept.
-/
namespace Go.Proofs.YtlhllbggnpcoaaaGreatDoor
open Go.RowKit Go.Sort Go.Maps Go.MuLone

set_option maxRecDepth 100000 in
set_option maxHeartbeats 4000000 in
theorem accept_no (w : World) (B sb : Nat) (st : Bst) (F : Nat → Prop) (h : Book w B sb st F) (hG : Ground w) (hB : 2 < B) 
    (a : Option Addr) (b off c : Nat) (t : List Nat) (ht : Vw w a b off t) (hc : t.length ≤ c) (hf : 0 < t.length → ¬ F b) (k : List Nat) (hk : IsH k) (hne : kc st.cbits st.S t ≠ k) :
    Calls Tryz.prog 10 #[.pointer (some ⟨sb, 0, none⟩), .slice a t.length c, .agg (hA k)] w fun e w' => e = .returned (.bool false) ∧ Turned w w' B sb st F := by
  have bs := hA_size hk
  have hFB : ∀ i, F i → 2 < i := fun i q => by have := (h.lim i q).1; omega
  obtain ⟨bh, bc, bf, Fh, Fc, Ff, hx, hF⟩ := h
  have b1 : Below w.heap.size w (w.alloc (.cells (hA k) 31)) := (Below.refl _ _).alloc (Nat.le_refl _) _
  have hr1 : (w.alloc (.cells (hA k) 31)).heap[w.heap.size]? = some (.cells (hA k) 31 (0, 0)) := heap_alloc_new _ _
  obtain ⟨w1, hw1⟩ : ∃ w1, w1 = w.alloc (.cells (hA k) 31) := ⟨_, rfl⟩
  rw [← hw1] at b1 hr1
  have hl1 : w.heap.size < w1.heap.size := (Array.getElem?_eq_some_iff.1 hr1).1
  have hx1 := hx.below b1
  have lk := lock_free muLib ⟨sb, 34, none⟩ w1 hx1.state (hx1.frozen 34)
  have hx2 := hx1.lock 1
  have hFs : F sb := (hF sb).2 (Or.inl rfl)
  have t2 : Turn (fun i => i = sb) w1 (w1.setCell ⟨sb, 34, none⟩ (.int .i32 1)) := Turn.setCell w1 _ _ rfl
  obtain ⟨w2, hw2⟩ : ∃ w2, w2 = w1.setCell ⟨sb, 34, none⟩ (.int .i32 1) := ⟨_, rfl⟩
  rw [← hw2] at lk hx2 t2
  have tF : Turn F w w2 := (Turn.of_below b1 (F := F)).trans t2 (fun i q => Or.inl (q ▸ hFs))
  have hG2 : Ground w2 := hG.turn tF hFB
  have hsl : sb < w.heap.size := hx.lt
  have hr2 : w2.heap[w.heap.size]? = some (.cells (hA k) 31 (0, 0)) := (t2.block _ hl1 (by omega)).trans hr1
  have ht2 : Vw w2 a b off t := ht.turn tF hf
  have hl2 : w.heap.size < w2.heap.size := Nat.lt_of_lt_of_le hl1 t2.size
  have hlim : ∀ i, F i → i < w.heap.size := fun i q => by
    rcases (hF i).1 q with e | q
    · exact e ▸ hsl
    · exact hx.lim i q
  have HX : Hid (BookX w2 B sb st 1 bh bc bf Fh Fc Ff ∧ Turn F w w2 ∧ (∀ i, F i ↔ i = sb ∨ Fh i ∨ Fc i ∨ Ff i) ∧ w2.heap[w.heap.size]? = some (.cells (hA k) 31 (0, 0)) ∧ Vw w2 a b off t ∧ w.heap.size < w2.heap.size ∧ (∀ i, F i → i < w.heap.size)) := ⟨hx2, tF, hF, hr2, ht2, hl2, hlim⟩
  have kc26 := fun (d : Nat) (os : Array Obj) => Calls.regrown_of (w := w2) (d := d) (os := os) (codeOf_any (grow (redrawn w2 d) os) B sb st 1 bh bc bf Fh Fc Ff (hx2.below (below_regrown w2 d os)) (hG2.below (below_regrown w2 d os)) a b off c t (ht2.below (below_regrown w2 d os)) hc)
  have kq := fun (d : Nat) (os : Array Obj) => Calls.regrown_of (w := w2) (d := d) (os := os) (meq_any (grow (redrawn w2 d) os) (kc st.cbits st.S t) k (kc_isH _ _ _) hk)
  have hcc : ∀ w', (∃ r : Regrown, w' = grow (redrawn w2 r.d) r.os) → ∀ j, j < (hA k).size → w'.cell? ⟨w.heap.size, j, none⟩ = (hA k)[j]? := by
    rintro _ ⟨r, rfl⟩ j hj
    rw [cell_of_row _ _ _ _ 31 _ (((below_regrown w2 r.d r.os).block _ hl2).trans hr2)]
  obtain ⟨m, hm⟩ : ∃ m, m = t.length := ⟨_, rfl⟩
  have HM : Hid (m = t.length) := hm
  rw [← hm] at kc26 ⊢
  rw [decide_eq_false hne] at kq
  clear hne
  obtain ⟨k0, hk0⟩ : ∃ k0, k0 = kc st.cbits st.S t := ⟨_, rfl⟩
  rw [← hk0] at kc26 kq
  clear hx hx1 hx2 hF hG hG2 tF t2 hm ht ht2 b1 hr1 hr2 hFB hFs hl1 hl2 hlim hsl hw2 hf hk0
  go_enter_defers Tryz.func10, Tryz.ntmps10
  go_wp2_with (go_at_call 24; rw [← hw1]; refine lk.mono ?_; rintro _ w' ⟨rfl, hw'⟩; have hw'' := hw'.symm; subst hw'')
  refine wp_region_quiet_below (by kernel_rfl) (by kernel_rfl) ?_
  iterate 3 (first | go_big_quiet_step (first | (go_at_call 29; exact kc26 _ _)) | quiet_step (first | (go_at_call 29; exact kc26 _ _)))
  refine quiet_load (by rfl) 31 (.tmp 5) (by rfl) w.heap.size (by rfl) (hA k) _ hcc Tryz.underlying31 rfl (hA_info hk) ?_
  repeat (first
    | go_big_quiet_step (first | (go_at_call 30; exact kq _ _))
    | quiet_step (first | (go_at_call 30; exact kq _ _)))
  refine wpQuiet_nil ?_
  intro w9 hw'
  obtain ⟨⟨dq, osq⟩, hw''⟩ := hw'
  have HC : Hid (Below w2.heap.size w2 w9) := by rw [hw'']; exact below_regrown w2 dq osq
  clear hw'' kc26 kq hcc lk hw1
  have HCC := HC
  have hx9 := HX.out.1.below HC.out
  go_wp2_with fail
  refine leaves_cons (f := 25) (args := #[.pointer (some ⟨sb, 34, none⟩)]) (by simp) (by simp [go_sem]) ?_
  refine (unlock_deferred muLib ⟨sb, 34, none⟩ .returning _ hx9.state (hx9.frozen 34)).mono ?_
  rintro e u' w'' ⟨rfl, rfl, rfl⟩
  refine ⟨_, results_tmp rfl _ _ _, rfl, ?_⟩
  have hF := HX.out.2.2.1
  exact book_close hx9 (HX.out.2.1.trans (Turn.of_below HCC.out (F := F)) (fun i q => Or.inl q)) ((hF sb).2 (Or.inl rfl)) (fun i q => (hF i).1 q) (fun i q => Or.inl ((hF i).2 (Or.inr q)))

set_option maxRecDepth 100000 in
set_option maxHeartbeats 4000000 in
theorem accept_own (w : World) (B sb : Nat) (st : Bst) (F : Nat → Prop) (h : Book w B sb st F) (hG : Ground w) (hB : 2 < B) (hL : st.LC.length ≤ 549755813888)
    (a : Option Addr) (b off c : Nat) (t : List Nat) (ht : Vw w a b off t) (hc : t.length ≤ c) (hf : 0 < t.length → ¬ F b) (k : List Nat) (hk : IsH k) (he : k = kc st.cbits st.S t) (hin : t ∈ st.LC) :
    Calls Tryz.prog 10 #[.pointer (some ⟨sb, 0, none⟩), .slice a t.length c, .agg (hA k)] w fun e w' => e = .returned (.bool true) ∧ Turned w w' B sb st F := by
  have bs := hA_size hk
  have hFB : ∀ i, F i → 2 < i := fun i q => by have := (h.lim i q).1; omega
  obtain ⟨bh, bc, bf, Fh, Fc, Ff, hx, hF⟩ := h
  have b1 : Below w.heap.size w (w.alloc (.cells (hA k) 31)) := (Below.refl _ _).alloc (Nat.le_refl _) _
  have hr1 : (w.alloc (.cells (hA k) 31)).heap[w.heap.size]? = some (.cells (hA k) 31 (0, 0)) := heap_alloc_new _ _
  obtain ⟨w1, hw1⟩ : ∃ w1, w1 = w.alloc (.cells (hA k) 31) := ⟨_, rfl⟩
  rw [← hw1] at b1 hr1
  have hl1 : w.heap.size < w1.heap.size := (Array.getElem?_eq_some_iff.1 hr1).1
  have hx1 := hx.below b1
  have lk := lock_free muLib ⟨sb, 34, none⟩ w1 hx1.state (hx1.frozen 34)
  have hx2 := hx1.lock 1
  have hFs : F sb := (hF sb).2 (Or.inl rfl)
  have t2 : Turn (fun i => i = sb) w1 (w1.setCell ⟨sb, 34, none⟩ (.int .i32 1)) := Turn.setCell w1 _ _ rfl
  obtain ⟨w2, hw2⟩ : ∃ w2, w2 = w1.setCell ⟨sb, 34, none⟩ (.int .i32 1) := ⟨_, rfl⟩
  rw [← hw2] at lk hx2 t2
  have tF : Turn F w w2 := (Turn.of_below b1 (F := F)).trans t2 (fun i q => Or.inl (q ▸ hFs))
  have hG2 : Ground w2 := hG.turn tF hFB
  have hsl : sb < w.heap.size := hx.lt
  have hr2 : w2.heap[w.heap.size]? = some (.cells (hA k) 31 (0, 0)) := (t2.block _ hl1 (by omega)).trans hr1
  have ht2 : Vw w2 a b off t := ht.turn tF hf
  have hl2 : w.heap.size < w2.heap.size := Nat.lt_of_lt_of_le hl1 t2.size
  have hlim : ∀ i, F i → i < w.heap.size := fun i q => by
    rcases (hF i).1 q with e | q
    · exact e ▸ hsl
    · exact hx.lim i q
  have HX : Hid (BookX w2 B sb st 1 bh bc bf Fh Fc Ff ∧ Turn F w w2 ∧ (∀ i, F i ↔ i = sb ∨ Fh i ∨ Fc i ∨ Ff i) ∧ w2.heap[w.heap.size]? = some (.cells (hA k) 31 (0, 0)) ∧ Vw w2 a b off t ∧ w.heap.size < w2.heap.size ∧ (∀ i, F i → i < w.heap.size)) := ⟨hx2, tF, hF, hr2, ht2, hl2, hlim⟩
  have kc26 := fun (d : Nat) (os : Array Obj) => Calls.regrown_of (w := w2) (d := d) (os := os) (codeOf_any (grow (redrawn w2 d) os) B sb st 1 bh bc bf Fh Fc Ff (hx2.below (below_regrown w2 d os)) (hG2.below (below_regrown w2 d os)) a b off c t (ht2.below (below_regrown w2 d os)) hc)
  have kq := fun (d : Nat) (os : Array Obj) => Calls.regrown_of (w := w2) (d := d) (os := os) (meq_any (grow (redrawn w2 d) os) (kc st.cbits st.S t) k (kc_isH _ _ _) hk)
  have hcc : ∀ w', (∃ r : Regrown, w' = grow (redrawn w2 r.d) r.os) → ∀ j, j < (hA k).size → w'.cell? ⟨w.heap.size, j, none⟩ = (hA k)[j]? := by
    rintro _ ⟨r, rfl⟩ j hj
    rw [cell_of_row _ _ _ _ 31 _ (((below_regrown w2 r.d r.os).block _ hl2).trans hr2)]
  obtain ⟨m, hm⟩ : ∃ m, m = t.length := ⟨_, rfl⟩
  have HM : Hid (m = t.length) := hm
  rw [← hm] at kc26 ⊢
  have hd : decide (kc st.cbits st.S t = k) = true := decide_eq_true he.symm
  rw [hd] at kq
  have HG : Hid (decide (t ∈ grp (kc st.cbits st.S) st.LC k) = true) := by
    show decide (t ∈ grp (kc st.cbits st.S) st.LC k) = true
    rw [he]
    exact decide_eq_true (mem_grp_self.2 hin)
  have HE : Hid (k = kc st.cbits st.S t) := he
  clear hd he hin
  obtain ⟨k0, hk0⟩ : ∃ k0, k0 = kc st.cbits st.S t := ⟨_, rfl⟩
  rw [← hk0] at kc26 kq
  clear hx hx1 hx2 hF hG hG2 tF t2 hm ht ht2 b1 hr1 hr2 hFB hFs hl1 hl2 hlim hsl hw2 hf hk0
  go_enter_defers Tryz.func10, Tryz.ntmps10
  go_wp2_with (go_at_call 24; rw [← hw1]; refine lk.mono ?_; rintro _ w' ⟨rfl, hw'⟩; have hw'' := hw'.symm; subst hw'')
  refine wp_region_quiet_below (by kernel_rfl) (by kernel_rfl) ?_
  iterate 3 (first | go_big_quiet_step (first | (go_at_call 29; exact kc26 _ _)) | quiet_step (first | (go_at_call 29; exact kc26 _ _)))
  refine quiet_load (by rfl) 31 (.tmp 5) (by rfl) w.heap.size (by rfl) (hA k) _ hcc Tryz.underlying31 rfl (hA_info hk) ?_
  repeat (first
    | go_big_quiet_step (first | (go_at_call 30; exact kq _ _))
    | quiet_step (first | (go_at_call 30; exact kq _ _)))
  refine wpQuiet_nil ?_
  intro w9 hw'
  obtain ⟨⟨dq, osq⟩, hw''⟩ := hw'
  have HC : Hid (Below w2.heap.size w2 w9) := by rw [hw'']; exact below_regrown w2 dq osq
  clear hw'' kc26 kq hcc lk hw1
  have ht9 : Vw w9 a b off t := HX.out.2.2.2.2.1.below HC.out
  have hx9 := HX.out.1.below HC.out
  have hr9 : w9.heap[w.heap.size]? = some (.cells (hA k) 31 (0, 0)) := (HC.out.block _ HX.out.2.2.2.2.2.1).trans HX.out.2.2.2.1
  have hl9 : w.heap.size < w9.heap.size := (Array.getElem?_eq_some_iff.1 hr9).1
  have kh := fun (d : Nat) (os : Array Obj) => Calls.regrown_of (w := w9) (d := d) (os := os) (has_any (grow (redrawn w9 d) os) sb 38 bc Fc (kc st.cbits st.S) st.LC (hx9.below (below_regrown w9 d os)).natC k hk (by omega) a b off c t (ht9.below (below_regrown w9 d os)))
  rw [← HM.out, HG.out] at kh
  have hcc : ∀ w', (∃ r : Regrown, w' = grow (redrawn w9 r.d) r.os) → ∀ j, j < (hA k).size → w'.cell? ⟨w.heap.size, j, none⟩ = (hA k)[j]? := by
    rintro _ ⟨r, rfl⟩ j hj
    rw [cell_of_row _ _ _ _ 31 _ (((below_regrown w9 r.d r.os).block _ hl9).trans hr9)]
  clear ht9 hx9 hr9 hl9
  go_wp2_with fail
  refine wp_region_quiet_below (by kernel_rfl) (by kernel_rfl) ?_
  iterate 3 (go_big_quiet_step (fail))
  refine quiet_load (by rfl) 31 (.tmp 5) (by rfl) w.heap.size (by rfl) (hA k) _ hcc Tryz.underlying31 rfl (hA_info hk) ?_
  repeat (first
    | go_big_quiet_step (first | (go_at_call 31; exact kh _ _))
    | quiet_step (first | (go_at_call 31; exact kh _ _)))
  refine wpQuiet_nil ?_
  intro w4 hw'
  obtain ⟨⟨dq, osq⟩, hw''⟩ := hw'
  have HCC : Hid (Below w2.heap.size w2 w4) := by rw [hw'']; exact ch HC.out (below_regrown w9 dq osq)
  clear hw'' kh hcc
  have hx9 := HX.out.1.below HCC.out
  go_wp2_with fail
  refine leaves_cons (f := 25) (args := #[.pointer (some ⟨sb, 34, none⟩)]) (by simp) (by simp [go_sem]) ?_
  refine (unlock_deferred muLib ⟨sb, 34, none⟩ .returning _ hx9.state (hx9.frozen 34)).mono ?_
  rintro e u' w'' ⟨rfl, rfl, rfl⟩
  refine ⟨_, results_tmp rfl _ _ _, rfl, ?_⟩
  have hF := HX.out.2.2.1
  exact book_close hx9 (HX.out.2.1.trans (Turn.of_below HCC.out (F := F)) (fun i q => Or.inl q)) ((hF sb).2 (Or.inl rfl)) (fun i q => (hF i).1 q) (fun i q => Or.inl ((hF i).2 (Or.inr q)))

set_option maxRecDepth 100000 in
set_option maxHeartbeats 4000000 in
theorem accept_forge (w : World) (B sb : Nat) (st : Bst) (F : Nat → Prop) (h : Book w B sb st F) (hG : Ground w) (hB : 2 < B) (hL : st.LC.length ≤ 549755813888) (hLF : st.LF.length ≤ 549755813888)
    (a : Option Addr) (b off c : Nat) (t : List Nat) (ht : Vw w a b off t) (hc : t.length ≤ c) (hs : t.length ≤ 140737488355328) (hf : 0 < t.length → ¬ F b) (k : List Nat) (hk : IsH k) (he : k = kc st.cbits st.S t) (hin : t ∉ st.LC) :
    Calls Tryz.prog 10 #[.pointer (some ⟨sb, 0, none⟩), .slice a t.length c, .agg (hA k)] w fun e w' => e = .returned (.bool true) ∧ Turned w w' B sb { st with LF := ins t st.LF } F := by
  have bs := hA_size hk
  have hFB : ∀ i, F i → 2 < i := fun i q => by have := (h.lim i q).1; omega
  obtain ⟨bh, bc, bf, Fh, Fc, Ff, hx, hF⟩ := h
  have b1 : Below w.heap.size w (w.alloc (.cells (hA k) 31)) := (Below.refl _ _).alloc (Nat.le_refl _) _
  have hr1 : (w.alloc (.cells (hA k) 31)).heap[w.heap.size]? = some (.cells (hA k) 31 (0, 0)) := heap_alloc_new _ _
  obtain ⟨w1, hw1⟩ : ∃ w1, w1 = w.alloc (.cells (hA k) 31) := ⟨_, rfl⟩
  rw [← hw1] at b1 hr1
  have hl1 : w.heap.size < w1.heap.size := (Array.getElem?_eq_some_iff.1 hr1).1
  have hx1 := hx.below b1
  have lk := lock_free muLib ⟨sb, 34, none⟩ w1 hx1.state (hx1.frozen 34)
  have hx2 := hx1.lock 1
  have hFs : F sb := (hF sb).2 (Or.inl rfl)
  have t2 : Turn (fun i => i = sb) w1 (w1.setCell ⟨sb, 34, none⟩ (.int .i32 1)) := Turn.setCell w1 _ _ rfl
  obtain ⟨w2, hw2⟩ : ∃ w2, w2 = w1.setCell ⟨sb, 34, none⟩ (.int .i32 1) := ⟨_, rfl⟩
  rw [← hw2] at lk hx2 t2
  have tF : Turn F w w2 := (Turn.of_below b1 (F := F)).trans t2 (fun i q => Or.inl (q ▸ hFs))
  have hG2 : Ground w2 := hG.turn tF hFB
  have hsl : sb < w.heap.size := hx.lt
  have hr2 : w2.heap[w.heap.size]? = some (.cells (hA k) 31 (0, 0)) := (t2.block _ hl1 (by omega)).trans hr1
  have ht2 : Vw w2 a b off t := ht.turn tF hf
  have hl2 : w.heap.size < w2.heap.size := Nat.lt_of_lt_of_le hl1 t2.size
  have hlim : ∀ i, F i → i < w.heap.size := fun i q => by
    rcases (hF i).1 q with e | q
    · exact e ▸ hsl
    · exact hx.lim i q
  have HX : Hid (BookX w2 B sb st 1 bh bc bf Fh Fc Ff ∧ Turn F w w2 ∧ (∀ i, F i ↔ i = sb ∨ Fh i ∨ Fc i ∨ Ff i) ∧ w2.heap[w.heap.size]? = some (.cells (hA k) 31 (0, 0)) ∧ Vw w2 a b off t ∧ w.heap.size < w2.heap.size ∧ (∀ i, F i → i < w.heap.size)) := ⟨hx2, tF, hF, hr2, ht2, hl2, hlim⟩
  have kc26 := fun (d : Nat) (os : Array Obj) => Calls.regrown_of (w := w2) (d := d) (os := os) (codeOf_any (grow (redrawn w2 d) os) B sb st 1 bh bc bf Fh Fc Ff (hx2.below (below_regrown w2 d os)) (hG2.below (below_regrown w2 d os)) a b off c t (ht2.below (below_regrown w2 d os)) hc)
  have kq := fun (d : Nat) (os : Array Obj) => Calls.regrown_of (w := w2) (d := d) (os := os) (meq_any (grow (redrawn w2 d) os) (kc st.cbits st.S t) k (kc_isH _ _ _) hk)
  have hcc : ∀ w', (∃ r : Regrown, w' = grow (redrawn w2 r.d) r.os) → ∀ j, j < (hA k).size → w'.cell? ⟨w.heap.size, j, none⟩ = (hA k)[j]? := by
    rintro _ ⟨r, rfl⟩ j hj
    rw [cell_of_row _ _ _ _ 31 _ (((below_regrown w2 r.d r.os).block _ hl2).trans hr2)]
  obtain ⟨m, hm⟩ : ∃ m, m = t.length := ⟨_, rfl⟩
  have HM : Hid (m = t.length) := hm
  rw [← hm] at kc26 hs ⊢
  have hd : decide (kc st.cbits st.S t = k) = true := decide_eq_true he.symm
  rw [hd] at kq
  have HG : Hid (decide (t ∈ grp (kc st.cbits st.S) st.LC k) = false) := by
    show decide (t ∈ grp (kc st.cbits st.S) st.LC k) = false
    rw [he]
    exact decide_eq_false (fun q => hin (mem_grp_self.1 q))
  have HE : Hid (k = kc st.cbits st.S t) := he
  clear hd he hin
  obtain ⟨k0, hk0⟩ : ∃ k0, k0 = kc st.cbits st.S t := ⟨_, rfl⟩
  rw [← hk0] at kc26 kq
  clear hx hx1 hx2 hF hG hG2 tF t2 hm ht ht2 b1 hr1 hr2 hFB hFs hl1 hl2 hlim hsl hw2 hf hk0
  go_enter_defers Tryz.func10, Tryz.ntmps10
  go_wp2_with (go_at_call 24; rw [← hw1]; refine lk.mono ?_; rintro _ w' ⟨rfl, hw'⟩; have hw'' := hw'.symm; subst hw'')
  refine wp_region_quiet_below (by kernel_rfl) (by kernel_rfl) ?_
  iterate 3 (first | go_big_quiet_step (first | (go_at_call 29; exact kc26 _ _)) | quiet_step (first | (go_at_call 29; exact kc26 _ _)))
  refine quiet_load (by rfl) 31 (.tmp 5) (by rfl) w.heap.size (by rfl) (hA k) _ hcc Tryz.underlying31 rfl (hA_info hk) ?_
  repeat (first
    | go_big_quiet_step (first | (go_at_call 30; exact kq _ _))
    | quiet_step (first | (go_at_call 30; exact kq _ _)))
  refine wpQuiet_nil ?_
  intro w9 hw'
  obtain ⟨⟨dq, osq⟩, hw''⟩ := hw'
  have HC : Hid (Below w2.heap.size w2 w9) := by rw [hw'']; exact below_regrown w2 dq osq
  clear hw'' kc26 kq hcc lk hw1
  have ht9 : Vw w9 a b off t := HX.out.2.2.2.2.1.below HC.out
  have hx9 := HX.out.1.below HC.out
  have hr9 : w9.heap[w.heap.size]? = some (.cells (hA k) 31 (0, 0)) := (HC.out.block _ HX.out.2.2.2.2.2.1).trans HX.out.2.2.2.1
  have hl9 : w.heap.size < w9.heap.size := (Array.getElem?_eq_some_iff.1 hr9).1
  have kh := fun (d : Nat) (os : Array Obj) => Calls.regrown_of (w := w9) (d := d) (os := os) (has_any (grow (redrawn w9 d) os) sb 38 bc Fc (kc st.cbits st.S) st.LC (hx9.below (below_regrown w9 d os)).natC k hk (by omega) a b off c t (ht9.below (below_regrown w9 d os)))
  rw [← HM.out, HG.out] at kh
  have hcc : ∀ w', (∃ r : Regrown, w' = grow (redrawn w9 r.d) r.os) → ∀ j, j < (hA k).size → w'.cell? ⟨w.heap.size, j, none⟩ = (hA k)[j]? := by
    rintro _ ⟨r, rfl⟩ j hj
    rw [cell_of_row _ _ _ _ 31 _ (((below_regrown w9 r.d r.os).block _ hl9).trans hr9)]
  clear ht9 hx9 hr9 hl9
  go_wp2_with fail
  refine wp_region_quiet_below (by kernel_rfl) (by kernel_rfl) ?_
  iterate 3 (go_big_quiet_step (fail))
  refine quiet_load (by rfl) 31 (.tmp 5) (by rfl) w.heap.size (by rfl) (hA k) _ hcc Tryz.underlying31 rfl (hA_info hk) ?_
  repeat (first
    | go_big_quiet_step (first | (go_at_call 31; exact kh _ _))
    | quiet_step (first | (go_at_call 31; exact kh _ _)))
  refine wpQuiet_nil ?_
  intro w4 hw'
  obtain ⟨⟨dq, osq⟩, hw''⟩ := hw'
  have HCC : Hid (Below w2.heap.size w2 w4) := by rw [hw'']; exact ch HC.out (below_regrown w9 dq osq)
  clear hw'' kh hcc
  go_wp2_with fail
  have bd4 : Below w2.heap.size w2 w4.drew := HCC.out.drew
  have hx4 := HX.out.1.below bd4
  have ad := add_any w4.drew sb 40 bf Ff (kc st.cbits st.S) st.LF hx4.natF hLF a b off c t (HX.out.2.2.2.2.1.below bd4) (by rw [← HE.out]; exact hk) (by rw [← HM.out]; exact hs)
  rw [← HE.out, ← HM.out] at ad
  have hr4 : w4.drew.heap[w.heap.size]? = some (.cells (hA k) 31 (0, 0)) := (bd4.block _ HX.out.2.2.2.2.2.1).trans HX.out.2.2.2.1
  have s0 : w4.drew.rangeAt w.heap.size 0 (bv k) := range_box hr4
  have HZ : Hid (∀ w5, Turn (fun i => Ff i ∨ i = sb) w4.drew w5 → w5.rangeAt w.heap.size 0 (bv k)) := by
    intro w5 t5
    have hF := HX.out.2.2.1
    have hlm := HX.out.2.2.2.2.2.2
    refine range_box ((t5.block w.heap.size (Nat.lt_of_lt_of_le HX.out.2.2.2.2.2.1 bd4.size) (fun q => ?_)).trans hr4)
    have : F w.heap.size := (hF _).2 (by rcases q with q | q; exact Or.inr (Or.inr (Or.inr q)); exact Or.inl q)
    have := hlm _ this
    omega
  have HX4 : Hid (BookX w4.drew B sb st 1 bh bc bf Fh Fc Ff ∧ Below w2.heap.size w2 w4.drew) := ⟨hx4, bd4⟩
  clear hx4 bd4 hr4
  refine wp_region_noPanic ?_
  refine wp_region_held_drew (S := fun w' => w'.rangeAt w.heap.size 0 (bv k)) (by kernel_rfl) s0 ?_
  intro hS
  clear s0
  change wpAnyH _ _ _ _ _ 6 _ _ _
  refine wpAnyH_take (i := 0) (v := ?_) (by simp only [List.getElem?_toArray, List.getElem?_cons_zero]; rfl) (by kernel_rfl) (by kernel_rfl) (by kernel_rfl) (by exact fun _ _ _ h => h) (Or.inl ⟨by rfl, ?_⟩) hS ?_
  rotate_left
  · intro w' hS'
    go_simp
    try with_reducible rfl
  refine wpAnyH_take (i := 1) (v := ?_) (by simp only [List.getElem?_toArray, List.getElem?_cons_zero, List.getElem?_cons_succ]; rfl) (by kernel_rfl) (by kernel_rfl) (by kernel_rfl) (by exact fun _ _ _ h => h) (Or.inl ⟨by rfl, ?_⟩) hS ?_
  rotate_left
  · intro w' hS'
    go_simp
    try with_reducible rfl
  refine wpAnyH_take (i := 2) (v := ?_) (by simp only [List.getElem?_toArray, List.getElem?_cons_zero, List.getElem?_cons_succ]; rfl) (by kernel_rfl) (by kernel_rfl) (by kernel_rfl) (by exact fun _ _ _ h => h) (Or.inl ⟨by rfl, ?_⟩) hS ?_
  rotate_left
  · intro w' hS'
    go_simp
    try with_reducible rfl
  refine wpAnyH_take (i := 3) (by simp only [List.getElem?_toArray, List.getElem?_cons_zero, List.getElem?_cons_succ]; rfl) (by kernel_rfl) (by kernel_rfl) (by kernel_rfl) (by exact fun _ _ _ h => h) (yieldsIf_load_mid (by rfl) _ _ rfl _ _ rfl _ _ (fun _ h => h) Tryz.underlying31 rfl (hL_len hk)) hS ?_
  try simp only [Act.put, List.setIfInBounds_toArray, List.set_cons_zero, List.set_cons_succ]
  refine wpAnyH_take (i := 4) (v := ?_) (by simp only [List.getElem?_toArray, List.getElem?_cons_zero, List.getElem?_cons_succ]; rfl) (by kernel_rfl) (by kernel_rfl) (by kernel_rfl) (by exact fun _ _ _ h => h) (Or.inl ⟨by rfl, ?_⟩) hS ?_
  rotate_left
  · intro w' hS'
    go_simp
    try with_reducible rfl
  refine wpAnyH_ready (rs := [5]) (by kernel_rfl) (by simp) ?_
  refine AllReadyH.cons (by simp only [List.getElem?_toArray, List.getElem?_cons_zero, List.getElem?_cons_succ]; rfl) (fun K hK => ?_) AllReadyH.nil
  go_simp
  refine ad.mono ?_
  rintro _ w5 ⟨rfl, ad5⟩
  have HA : Hid (Added w4.drew w5 sb 40 bf Ff (kc st.cbits st.S) (ins t st.LF)) := ad5
  refine hK.out _ _ (HZ.out w5 ad5.turn) (fun _ => ?_)
  clear hK K ad5 ad HZ
  refine wpAnyH_done (by kernel_rfl) (NoPanic.normal ?_) _
  try simp only [Act.put, List.setIfInBounds_toArray, List.set_cons_zero, List.set_cons_succ]
  obtain ⟨F', f1, f2, hx9⟩ := BookX.addedF HX4.out.1 HA.out
  have HF2 : Hid ((∀ i, Ff i → F' i) ∧ ∀ i, F' i → Ff i ∨ w4.drew.heap.size ≤ i) := ⟨f1, f2⟩
  clear f1 f2
  go_wp2_with fail
  refine leaves_cons (f := 25) (args := #[.pointer (some ⟨sb, 34, none⟩)]) (by simp) (by simp [go_sem]) ?_
  refine (unlock_deferred muLib ⟨sb, 34, none⟩ .returning _ hx9.state (hx9.frozen 34)).mono ?_
  rintro e u' w'' ⟨rfl, rfl, rfl⟩
  refine ⟨_, results_tmp rfl _ _ _, rfl, ?_⟩
  have hF := HX.out.2.2.1
  have t5 : Turn F w w5 := (HX.out.2.1.trans (Turn.of_below HX4.out.2 (F := F)) (fun i q => Or.inl q)).trans HA.out.turn (fun i q => Or.inl ((hF i).2 (by rcases q with q | q; exact Or.inr (Or.inr (Or.inr q)); exact Or.inl q)))
  refine book_close hx9 t5 ((hF sb).2 (Or.inl rfl)) (fun i q => ?_) (fun i q => ?_)
  · rcases (hF i).1 q with e | q | q | q
    · exact Or.inl e
    · exact Or.inr (Or.inl q)
    · exact Or.inr (Or.inr (Or.inl q))
    · exact Or.inr (Or.inr (Or.inr (HF2.out.1 i q)))
  · rcases q with q | q | q
    · exact Or.inl ((hF i).2 (Or.inr (Or.inl q)))
    · exact Or.inl ((hF i).2 (Or.inr (Or.inr (Or.inl q))))
    · rcases HF2.out.2 i q with z | z
      · exact Or.inl ((hF i).2 (Or.inr (Or.inr (Or.inr z))))
      · exact Or.inr (by have := HX4.out.2.size; have := HX.out.2.2.2.2.2.1; omega)
end Go.Proofs.YtlhllbggnpcoaaaGreatDoor
