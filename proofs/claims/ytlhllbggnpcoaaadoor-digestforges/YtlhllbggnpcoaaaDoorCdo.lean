import Derived.Test.YtlhllbggnpcoaaaDoorBk
/-
  codeOf: the code of a string with a book's secret.
-/
namespace Go.Proofs.YtlhllbggnpcoaaaDoor
open Go.RowKit Go.Sort Go.Maps

theorem Ground.turn {w w' : World} {F : Nat → Prop} (h : Ground w) (t : Turn F w w') (hF : ∀ i, F i → 2 < i) : Ground w' :=
  ⟨fun i hi => (t.cell (q := ⟨0, i, none⟩) (by have := h.big; show (0 : Nat) < _; omega) (fun f => by have := hF _ f; simp at this)).trans (h.first i hi),
    fun i hi => (t.cell (q := ⟨2, i, none⟩) h.big (fun f => by have := hF _ f; simp at this)).trans (h.roots i hi), Nat.lt_of_lt_of_le h.big t.size⟩
theorem jn_one (m : Nat) (Y : Nat → Nat) : jn (fun _ => m) (fun _ => Y) 1 = Y := by
  funext i
  simp [jn, cat, tot]
theorem code_one (w : World) (Sa : Option Addr) (sb so n sc : Nat) (S : Nat → Nat) (hv : View w Sa sb so n (fun i => (S i : Int))) (hsc : n ≤ sc) (hS : ∀ i, S i < 256) (A : Option Addr) (b off m c t cap : Nat) (Y : Nat → Nat) (hv2 : View w A b off m (fun i => (Y i : Int))) (hc : m ≤ c) (hY : ∀ i, Y i < 256) (hG : Ground w) :
    Calls Tryd.prog 43 #[.slice Sa n sc, .slice (some ⟨w.heap.size, 0, none⟩) 1 cap] (w.alloc (.cells #[.slice A m c] t)) fun e w' => e = .returned (.agg (hashA (hmac (blk n S) m Y))) ∧ Below (w.alloc (.cells #[.slice A m c] t)).heap.size (w.alloc (.cells #[.slice A m c] t)) w' := by
  have b0 : Below w.heap.size w (w.alloc (.cells #[.slice A m c] t)) := (Below.refl _ _).alloc (Nat.le_refl _) _
  have h := mcodes_any (w.alloc (.cells #[.slice A m c] t)) Sa sb so n sc S (hv.below b0) hsc hS _ _ _ 1 cap _ _ _ _ _ _ (parts_one hv2 hc hY t) (hG.below b0) (by omega) (by rw [tot_one]; have := hv2.len; omega)
  rw [tot_one, jn_one] at h
  exact h
theorem hmac_gd (S : Nat → Nat) (t : List Nat) : hashA (hmac (blk 32 S) t.length (gd t)) = hA (cod S t) := hashA_hA _

set_option maxRecDepth 100000 in
set_option maxHeartbeats 1600000 in
theorem codeOf_any (w : World) (B sb : Nat) (st : Bst) (l : Int) (bh bc bf : Nat) (Fh Fc Ff : Nat → Prop) (h : BookX w B sb st l bh bc bf Fh Fc Ff) (hG : Ground w)
    (a : Option Addr) (b off c : Nat) (t : List Nat) (ht : Vw w a b off t) (hc : t.length ≤ c) :
    Calls Tryd.prog 26 #[.pointer (some ⟨sb, 0, none⟩), .slice a t.length c] w fun e w' => e = .returned (.agg (hA (kc st.cbits st.S t))) ∧ Below w.heap.size w w' := by
  have z64 := (zero_of_info infoH).1
  have b1 : Below w.heap.size w (w.alloc (.cells Z32 31)) := (Below.refl _ _).alloc (Nat.le_refl _) _
  obtain ⟨w1, hw1⟩ : ∃ w1, w1 = w.alloc (.cells Z32 31) := ⟨_, rfl⟩
  have hrs : w1.heap[w.heap.size]? = some (.cells Z32 31 (0, 0)) := by rw [hw1]; exact heap_alloc_new _ _
  rw [← hw1] at b1
  have bd : Below w.heap.size w w1.drew := b1.drew
  have hx := h.below bd
  have cc := code_one w1.drew (some ⟨sb, 2, none⟩) sb 2 32 32 st.S hx.secret (by decide) h.S8 a b off t.length c 22 1 (gd t) (ht.below bd) hc (gd_lt (vw_ok ht).2) (hG.below bd)
  rw [hmac_gd] at cc
  have ck := fun w' => cut_any w' (cod st.S t) (cod_isH st.S t) st.cbits (by have := h.b2; omega)
  have ek : lst 32 (cutf st.cbits (gd (cod st.S t))) = kc st.cbits st.S t := rfl
  rw [ek] at ck
  have hk := kc_isH st.cbits st.S t
  obtain ⟨k, hkk⟩ : ∃ k, k = kc st.cbits st.S t := ⟨_, rfl⟩
  rw [← hkk] at ck hk ⊢
  obtain ⟨q, hq⟩ : ∃ q, q = cod st.S t := ⟨_, rfl⟩
  rw [← hq] at cc ck
  generalize t.length = m at cc ⊢
  have s0 : w1.drew.cell? ⟨sb, 1, none⟩ = some (.int .i64 st.cbits) := hx.cCBits
  have HS : Hid (∀ w', Below w1.drew.heap.size w1.drew w' → w'.cell? ⟨sb, 1, none⟩ = some (.int .i64 st.cbits)) := fun w' hb => (hx.below hb).cCBits
  have HB : Hid (Below w.heap.size w w1 ∧ w1.heap[w.heap.size]? = some (.cells Z32 31 (0, 0)) ∧ w.heap.size < w1.heap.size) := ⟨b1, hrs, by have := (Array.getElem?_eq_some_iff.1 hrs).1; exact this⟩
  have HH : Hid (sb < w.heap.size) := h.lt
  clear h hx hG ht b1 hrs hkk hq ek bd
  go_enter Tryd.func26, Tryd.ntmps26
  go_wp2_with fail
  rw [← hw1]
  clear hw1
  refine wp_region_held_drew (S := fun w' => w'.cell? ⟨sb, 1, none⟩ = some (.int .i64 st.cbits)) (by kernel_rfl) s0 ?_
  intro hS
  change wpAnyH _ _ _ _ _ 13 _ _ _
  refine wpAnyH_take (i := 0) (v := ?_) (by simp only [List.getElem?_toArray, List.getElem?_cons_zero]; rfl) (by kernel_rfl) (by kernel_rfl) (by kernel_rfl) (by exact fun _ _ _ h => h) (Or.inl ⟨by rfl, ?_⟩) hS ?_
  rotate_left
  · intro w' hS'
    go_simp
    try with_reducible rfl
  refine wpAnyH_take (i := 1) (v := ?_) (by simp only [List.getElem?_toArray, List.getElem?_cons_zero, List.getElem?_cons_succ]; rfl) (by kernel_rfl) (by kernel_rfl) (by kernel_rfl) (by exact fun _ _ _ h => h) (Or.inl ⟨by rfl, ?_⟩) hS ?_
  rotate_left
  · intro w' hS'
    go_simp
    try with_reducible rfl
  refine wpAnyH_take (i := 2) (v := ?_) (by simp only [List.getElem?_toArray, List.getElem?_cons_zero, List.getElem?_cons_succ]; rfl) (by kernel_rfl) (by kernel_rfl) (by kernel_rfl) (by exact fun _ _ _ h => h) (Or.inl ⟨by rfl, ?_⟩) hS ?_
  rotate_left
  · intro w' hS'
    go_simp
    try with_reducible rfl
  refine wpAnyH_take (i := 3) (v := ?_) (by simp only [List.getElem?_toArray, List.getElem?_cons_zero, List.getElem?_cons_succ]; rfl) (by kernel_rfl) (by kernel_rfl) (by kernel_rfl) (by exact fun _ _ _ h => h) (Or.inl ⟨by rfl, ?_⟩) hS ?_
  rotate_left
  · intro w' hS'
    go_simp
    try with_reducible rfl
  refine wpAnyH_take (i := 4) (v := ?_) (by simp only [List.getElem?_toArray, List.getElem?_cons_zero, List.getElem?_cons_succ]; rfl) (by kernel_rfl) (by kernel_rfl) (by kernel_rfl) (by exact fun _ _ _ h => h) (Or.inl ⟨by rfl, ?_⟩) hS ?_
  rotate_left
  · intro w' hS'
    go_simp
    try with_reducible rfl
  try simp only [Act.put, List.setIfInBounds_toArray, List.set_cons_zero, List.set_cons_succ]
  refine wpAnyH_take (i := 7) (v := ?_) (by simp only [List.getElem?_toArray, List.getElem?_cons_zero, List.getElem?_cons_succ]; rfl) (by kernel_rfl) (by kernel_rfl) (by kernel_rfl) (by exact fun _ _ _ h => h) (Or.inl ⟨by rfl, ?_⟩) hS ?_
  rotate_left
  · intro w' hS'
    go_simp
    try with_reducible rfl
  refine wpAnyH_take (i := 8) (v := ?_) (by simp only [List.getElem?_toArray, List.getElem?_cons_zero, List.getElem?_cons_succ]; rfl) (by kernel_rfl) (by kernel_rfl) (by kernel_rfl) (by exact fun _ _ _ h => h) (Or.inl ⟨by rfl, ?_⟩) hS ?_
  rotate_left
  · intro w' hS'
    go_simp
    try with_reducible rfl
  refine wpAnyH_take (i := 9) (v := ?_) (by simp only [List.getElem?_toArray, List.getElem?_cons_zero, List.getElem?_cons_succ]; rfl) (by kernel_rfl) (by kernel_rfl) (by kernel_rfl) (by exact fun _ _ _ h => h) (Or.inl ⟨by rfl, ?_⟩) hS ?_
  rotate_left
  · intro w' hS'
    go_simp
    try with_reducible rfl
  refine wpAnyH_take (i := 10) (v := ?_) (by simp only [List.getElem?_toArray, List.getElem?_cons_zero, List.getElem?_cons_succ]; rfl) (by kernel_rfl) (by kernel_rfl) (by kernel_rfl) (by exact fun _ _ _ h => h) (Or.inl ⟨by rfl, ?_⟩) hS ?_
  rotate_left
  · intro w' hS'
    have hm := hS'
    go_simp
    try with_reducible rfl
  try simp only [Act.put, List.setIfInBounds_toArray, List.set_cons_zero, List.set_cons_succ]
  refine wpAnyH_ready (rs := [5]) (by kernel_rfl) (by simp) ?_
  refine AllReadyH.cons (by simp only [List.getElem?_toArray, List.getElem?_cons_zero, List.getElem?_cons_succ]; rfl) (fun K hK => ?_) AllReadyH.nil
  go_simp
  have b2 : Below w1.drew.heap.size w1.drew (w1.drew.alloc (.cells #[.slice a m c] 22)) := (Below.refl _ _).alloc (Nat.le_refl _) _
  refine hK.out _ _ (HS.out _ b2) (fun _ => ?_)
  clear hK K
  try simp only [Act.put, List.setIfInBounds_toArray, List.set_cons_zero, List.set_cons_succ]
  refine wpAnyH_ready (rs := [6]) (by kernel_rfl) (by simp) ?_
  refine AllReadyH.cons (by simp only [List.getElem?_toArray, List.getElem?_cons_zero, List.getElem?_cons_succ]; rfl) (fun K hK => ?_) AllReadyH.nil
  go_simp
  refine cc.mono ?_
  rintro _ w3 ⟨rfl, hb3⟩
  have HC : Hid (Below w1.drew.heap.size w1.drew w3) := ch b2 hb3
  refine hK.out _ _ (HS.out _ HC.out) (fun _ => ?_)
  clear hK K hb3 b2 cc
  try simp only [Act.put, List.setIfInBounds_toArray, List.set_cons_zero, List.set_cons_succ]
  refine wpAnyH_ready (rs := [11]) (by kernel_rfl) (by simp) ?_
  refine AllReadyH.cons (by simp only [List.getElem?_toArray, List.getElem?_cons_zero, List.getElem?_cons_succ]; rfl) (fun K hK => ?_) AllReadyH.nil
  go_simp
  refine (ck w3).mono ?_
  rintro _ w4 ⟨rfl, hb4⟩
  have HD : Hid (Below w1.drew.heap.size w1.drew w4) := ch HC.out hb4
  refine hK.out _ _ (HS.out _ HD.out) (fun _ => ?_)
  clear hK K hb4 ck
  try simp only [Act.put, List.setIfInBounds_toArray, List.set_cons_zero, List.set_cons_succ]
  have hr4 : w4.heap[w.heap.size]? = some (.cells Z32 31 (0, 0)) := (HD.out.block _ HB.out.2.2).trans HB.out.2.1
  have s9 : (w4.setRow w.heap.size (hA k)).cell? ⟨sb, 1, none⟩ = some (.int .i64 st.cbits) := (World.cell?_of_block (w := w4) (setRow_other w4 w.heap.size sb _ (by have := HH.out; omega))).trans (HS.out _ HD.out)
  have HE : Hid (Below w.heap.size w (w4.setRow w.heap.size (hA k))) := below_setRow (HB.out.1.trans ((Below.trans ((Below.refl _ _).drew) HD.out).mono HB.out.1.size)) (Nat.le_refl _) _
  refine wpAnyH_ready (rs := [12]) (by kernel_rfl) (by simp) ?_
  refine AllReadyH.cons (by simp only [List.getElem?_toArray, List.getElem?_cons_zero, List.getElem?_cons_succ]; rfl) (fun K hK => ?_) AllReadyH.nil
  rw [if_pos (by rfl)]
  refine wp_store_row 31 (.tmp 4) (.tmp 16) (by rfl) w.heap.size (hA k) (by rfl) (by rfl) 31 Z32 hr4 (hA_info hk) (hA_Z32 hk) (hA_one hk) ?_
  refine hK.out _ _ s9 (fun _ => ?_)
  clear hK K s9
  refine wpAnyH_done (by kernel_rfl) ?_ _
  go_wp2_with fail
  refine bodyPost_ret (v := .agg (hA k)) ?_ rfl ?_
  · exact results_cell_row rfl _ _ w.heap.size 31 (hA k) (0, 0) _ rfl (setRow_heap _ _ _ _ _ _ hr4) Tryd.underlying31 rfl (hA_info hk)
  · exact ⟨rfl, HE.out⟩
end Go.Proofs.YtlhllbggnpcoaaaDoor
