import Derived.Test.YtlhllbggnpcoaaaGreatDoorBk
import Derived.Test.YtlhllbggnpcoaaaGreatDoorRCut
import Derived.Test.YtlhllbggnpcoaaaGreatDoorRefC
/-
  codeOf: the code of a string with a book's secret.
-/
namespace Go.Proofs.YtlhllbggnpcoaaaGreatDoor
open Go.RowKit Go.Sort Go.Maps

theorem Ground.turn {w w' : World} {F : Nat → Prop} (h : Ground w) (t : Turn F w w') (hF : ∀ i, F i → 2 < i) : Ground w' :=
  ⟨fun i hi => (t.cell (q := ⟨0, i, none⟩) (by have := h.big; show (0 : Nat) < _; omega) (fun f => by have := hF _ f; simp at this)).trans (h.first i hi),
    fun i hi => (t.cell (q := ⟨2, i, none⟩) h.big (fun f => by have := hF _ f; simp at this)).trans (h.roots i hi), Nat.lt_of_lt_of_le h.big t.size⟩
theorem jn_one (m : Nat) (Y : Nat → Nat) : jn (fun _ => m) (fun _ => Y) 1 = Y := by
  funext i
  simp [jn, cat, tot]
theorem code_one (w : World) (Sa : Option Addr) (sb so n sc : Nat) (S : Nat → Nat) (hv : View w Sa sb so n (fun i => (S i : Int))) (hsc : n ≤ sc) (hS : ∀ i, S i < 256) (A : Option Addr) (b off m c t cap : Nat) (Y : Nat → Nat) (hv2 : View w A b off m (fun i => (Y i : Int))) (hc : m ≤ c) (hY : ∀ i, Y i < 256) (hG : Ground w) :
    Calls Tryz.prog 57 #[.slice Sa n sc, .slice (some ⟨w.heap.size, 0, none⟩) 1 cap] (w.alloc (.cells #[.slice A m c] t)) fun e w' => e = .returned (.agg (hashA (hmac (blk n S) m Y))) ∧ Below (w.alloc (.cells #[.slice A m c] t)).heap.size (w.alloc (.cells #[.slice A m c] t)) w' := by
  have b0 : Below w.heap.size w (w.alloc (.cells #[.slice A m c] t)) := (Below.refl _ _).alloc (Nat.le_refl _) _
  have h := mcodes_any (w.alloc (.cells #[.slice A m c] t)) Sa sb so n sc S (hv.below b0) hsc hS _ _ _ 1 cap _ _ _ _ _ _ (parts_one hv2 hc hY t) (hG.below b0) (by omega) (by rw [tot_one]; have := hv2.len; omega)
  rw [tot_one, jn_one] at h
  exact h
theorem hmac_gd (S : Nat → Nat) (t : List Nat) : hashA (hmac (blk 32 S) t.length (gd t)) = hA (cod S t) := hashA_hA _

set_option maxRecDepth 100000 in
set_option maxHeartbeats 1600000 in
theorem codeOf_any (w : World) (B sb : Nat) (st : Bst) (l : Int) (bh bc bf : Nat) (Fh Fc Ff : Nat → Prop) (h : BookX w B sb st l bh bc bf Fh Fc Ff) (hG : Ground w)
    (a : Option Addr) (b off c : Nat) (t : List Nat) (ht : Vw w a b off t) (hc : t.length ≤ c) :
    Calls Tryz.prog 29 #[.pointer (some ⟨sb, 0, none⟩), .slice a t.length c] w fun e w' => e = .returned (.agg (hA (kc st.cbits st.S t))) ∧ Below w.heap.size w w' := by
  have z64 := (zero_of_info infoH).1
  have b1 : Below w.heap.size w (w.alloc (.cells Z32 31)) := (Below.refl _ _).alloc (Nat.le_refl _) _
  obtain ⟨w1, hw1⟩ : ∃ w1, w1 = w.alloc (.cells Z32 31) := ⟨_, rfl⟩
  have hrs : w1.heap[w.heap.size]? = some (.cells Z32 31 (0, 0)) := by rw [hw1]; exact heap_alloc_new _ _
  rw [← hw1] at b1
  have bd : Below w.heap.size w w1.drew := b1.drew
  have hx := h.below bd
  have cc := code_one w1.drew (some ⟨sb, 2, none⟩) sb 2 32 32 st.S hx.secret (by decide) h.S8 a b off t.length c 26 1 (gd t) (ht.below bd) hc (gd_lt (vw_ok ht).2) (hG.below bd)
  rw [hmac_gd] at cc
  have ck := fun w' => cut_any w' (cod st.S t) (cod_isH st.S t) st.cbits (by have := h.b2; omega)
  have ek : lst 32 (cutf st.cbits (gd (cod st.S t))) = kc st.cbits st.S t := rfl
  rw [ek] at ck
  have hk := kc_isH st.cbits st.S t
  obtain ⟨k, hkk⟩ : ∃ k, k = kc st.cbits st.S t := ⟨_, rfl⟩
  rw [← hkk] at ck hk ⊢
  obtain ⟨q, hq⟩ : ∃ q, q = cod st.S t := ⟨_, rfl⟩
  rw [← hq] at cc ck
  generalize t.length = m at cc ⊢
  have s0 : w1.drew.cell? ⟨sb, 1, none⟩ = some (.int .i64 st.cbits) := hx.cCBits
  have HS : Hid (∀ w', Below w1.drew.heap.size w1.drew w' → w'.cell? ⟨sb, 1, none⟩ = some (.int .i64 st.cbits)) := fun w' hb => (hx.below hb).cCBits
  have HB : Hid (Below w.heap.size w w1 ∧ w1.heap[w.heap.size]? = some (.cells Z32 31 (0, 0)) ∧ w.heap.size < w1.heap.size) := ⟨b1, hrs, by have := (Array.getElem?_eq_some_iff.1 hrs).1; exact this⟩
  have HH : Hid (sb < w.heap.size) := h.lt
  clear h hx hG ht b1 hrs hkk hq ek bd
  go_enter Tryz.func29, Tryz.ntmps29
  go_wp2_with fail
  rw [← hw1]
  clear hw1
  refine wp_region_held_drew (S := fun w' => w'.cell? ⟨sb, 1, none⟩ = some (.int .i64 st.cbits)) (by kernel_rfl) s0 ?_
  intro hS
  change wpAnyH _ _ _ _ _ 13 _ _ _
  refine wpAnyH_take (i := 0) (v := ?_) (by simp only [List.getElem?_toArray, List.getElem?_cons_zero]; rfl) (by kernel_rfl) (by kernel_rfl) (by kernel_rfl) (by exact fun _ _ _ h => h) (Or.inl ⟨by rfl, ?_⟩) hS ?_
  rotate_left
  · intro w' hS'
    go_simp
    try with_reducible rfl
  refine wpAnyH_take (i := 1) (v := ?_) (by simp only [List.getElem?_toArray, List.getElem?_cons_zero, List.getElem?_cons_succ]; rfl) (by kernel_rfl) (by kernel_rfl) (by kernel_rfl) (by exact fun _ _ _ h => h) (Or.inl ⟨by rfl, ?_⟩) hS ?_
  rotate_left
  · intro w' hS'
    go_simp
    try with_reducible rfl
  refine wpAnyH_take (i := 2) (v := ?_) (by simp only [List.getElem?_toArray, List.getElem?_cons_zero, List.getElem?_cons_succ]; rfl) (by kernel_rfl) (by kernel_rfl) (by kernel_rfl) (by exact fun _ _ _ h => h) (Or.inl ⟨by rfl, ?_⟩) hS ?_
  rotate_left
  · intro w' hS'
    go_simp
    try with_reducible rfl
  refine wpAnyH_take (i := 3) (v := ?_) (by simp only [List.getElem?_toArray, List.getElem?_cons_zero, List.getElem?_cons_succ]; rfl) (by kernel_rfl) (by kernel_rfl) (by kernel_rfl) (by exact fun _ _ _ h => h) (Or.inl ⟨by rfl, ?_⟩) hS ?_
  rotate_left
  · intro w' hS'
    go_simp
    try with_reducible rfl
  refine wpAnyH_take (i := 4) (v := ?_) (by simp only [List.getElem?_toArray, List.getElem?_cons_zero, List.getElem?_cons_succ]; rfl) (by kernel_rfl) (by kernel_rfl) (by kernel_rfl) (by exact fun _ _ _ h => h) (Or.inl ⟨by rfl, ?_⟩) hS ?_
  rotate_left
  · intro w' hS'
    go_simp
    try with_reducible rfl
  try simp only [Act.put, List.setIfInBounds_toArray, List.set_cons_zero, List.set_cons_succ]
  refine wpAnyH_take (i := 7) (v := ?_) (by simp only [List.getElem?_toArray, List.getElem?_cons_zero, List.getElem?_cons_succ]; rfl) (by kernel_rfl) (by kernel_rfl) (by kernel_rfl) (by exact fun _ _ _ h => h) (Or.inl ⟨by rfl, ?_⟩) hS ?_
  rotate_left
  · intro w' hS'
    go_simp
    try with_reducible rfl
  refine wpAnyH_take (i := 8) (v := ?_) (by simp only [List.getElem?_toArray, List.getElem?_cons_zero, List.getElem?_cons_succ]; rfl) (by kernel_rfl) (by kernel_rfl) (by kernel_rfl) (by exact fun _ _ _ h => h) (Or.inl ⟨by rfl, ?_⟩) hS ?_
  rotate_left
  · intro w' hS'
    go_simp
    try with_reducible rfl
  refine wpAnyH_take (i := 9) (v := ?_) (by simp only [List.getElem?_toArray, List.getElem?_cons_zero, List.getElem?_cons_succ]; rfl) (by kernel_rfl) (by kernel_rfl) (by kernel_rfl) (by exact fun _ _ _ h => h) (Or.inl ⟨by rfl, ?_⟩) hS ?_
  rotate_left
  · intro w' hS'
    go_simp
    try with_reducible rfl
  refine wpAnyH_take (i := 10) (v := ?_) (by simp only [List.getElem?_toArray, List.getElem?_cons_zero, List.getElem?_cons_succ]; rfl) (by kernel_rfl) (by kernel_rfl) (by kernel_rfl) (by exact fun _ _ _ h => h) (Or.inl ⟨by rfl, ?_⟩) hS ?_
  rotate_left
  · intro w' hS'
    have hm := hS'
    go_simp
    try with_reducible rfl
  try simp only [Act.put, List.setIfInBounds_toArray, List.set_cons_zero, List.set_cons_succ]
  refine wpAnyH_ready (rs := [5]) (by kernel_rfl) (by simp) ?_
  refine AllReadyH.cons (by simp only [List.getElem?_toArray, List.getElem?_cons_zero, List.getElem?_cons_succ]; rfl) (fun K hK => ?_) AllReadyH.nil
  go_simp
  have b2 : Below w1.drew.heap.size w1.drew (w1.drew.alloc (.cells #[.slice a m c] 26)) := (Below.refl _ _).alloc (Nat.le_refl _) _
  refine hK.out _ _ (HS.out _ b2) (fun _ => ?_)
  clear hK K
  try simp only [Act.put, List.setIfInBounds_toArray, List.set_cons_zero, List.set_cons_succ]
  refine wpAnyH_ready (rs := [6]) (by kernel_rfl) (by simp) ?_
  refine AllReadyH.cons (by simp only [List.getElem?_toArray, List.getElem?_cons_zero, List.getElem?_cons_succ]; rfl) (fun K hK => ?_) AllReadyH.nil
  go_simp
  refine cc.mono ?_
  rintro _ w3 ⟨rfl, hb3⟩
  have HC : Hid (Below w1.drew.heap.size w1.drew w3) := ch b2 hb3
  refine hK.out _ _ (HS.out _ HC.out) (fun _ => ?_)
  clear hK K hb3 b2 cc
  try simp only [Act.put, List.setIfInBounds_toArray, List.set_cons_zero, List.set_cons_succ]
  refine wpAnyH_ready (rs := [11]) (by kernel_rfl) (by simp) ?_
  refine AllReadyH.cons (by simp only [List.getElem?_toArray, List.getElem?_cons_zero, List.getElem?_cons_succ]; rfl) (fun K hK => ?_) AllReadyH.nil
  go_simp
  refine (ck w3).mono ?_
  rintro _ w4 ⟨rfl, hb4⟩
  have HD : Hid (Below w1.drew.heap.size w1.drew w4) := ch HC.out hb4
  refine hK.out _ _ (HS.out _ HD.out) (fun _ => ?_)
  clear hK K hb4 ck
  try simp only [Act.put, List.setIfInBounds_toArray, List.set_cons_zero, List.set_cons_succ]
  have hr4 : w4.heap[w.heap.size]? = some (.cells Z32 31 (0, 0)) := (HD.out.block _ HB.out.2.2).trans HB.out.2.1
  have s9 : (w4.setRow w.heap.size (hA k)).cell? ⟨sb, 1, none⟩ = some (.int .i64 st.cbits) := (World.cell?_of_block (w := w4) (setRow_other w4 w.heap.size sb _ (by have := HH.out; omega))).trans (HS.out _ HD.out)
  have HE : Hid (Below w.heap.size w (w4.setRow w.heap.size (hA k))) := below_setRow (HB.out.1.trans ((Below.trans ((Below.refl _ _).drew) HD.out).mono HB.out.1.size)) (Nat.le_refl _) _
  refine wpAnyH_ready (rs := [12]) (by kernel_rfl) (by simp) ?_
  refine AllReadyH.cons (by simp only [List.getElem?_toArray, List.getElem?_cons_zero, List.getElem?_cons_succ]; rfl) (fun K hK => ?_) AllReadyH.nil
  rw [if_pos (by rfl)]
  refine wp_store_row 31 (.tmp 4) (.tmp 16) (by rfl) w.heap.size (hA k) (by rfl) (by rfl) 31 Z32 hr4 (hA_info hk) (hA_Z32 hk) (hA_one hk) ?_
  refine hK.out _ _ s9 (fun _ => ?_)
  clear hK K s9
  refine wpAnyH_done (by kernel_rfl) ?_ _
  go_wp2_with fail
  refine bodyPost_ret (v := .agg (hA k)) ?_ rfl ?_
  · exact results_cell_row rfl _ _ w.heap.size 31 (hA k) (0, 0) _ rfl (setRow_heap _ _ _ _ _ _ hr4) Tryz.underlying31 rfl (hA_info hk)
  · exact ⟨rfl, HE.out⟩
end Go.Proofs.YtlhllbggnpcoaaaGreatDoor

/-
  A book: met, Len, Sound; what a nil one answers.
-/
namespace Go.Proofs.YtlhllbggnpcoaaaGreatDoor
open Go.RowKit Go.Sort Go.Maps Go.MuLone

instance (κ : List Nat → List Nat) (L : List (List Nat)) : Decidable (Lone κ L) := inferInstanceAs (Decidable (List.Pairwise _ L))

theorem quiet_len {P : Program} {ops : Array Oper} {C : World → Prop} {Q : Act → Prop} {a : Act} {o : Oper} {rest : List Oper} (hw : Region.wanted o (yielded ops a.tmps) = true) (x : Operand) (t : TypeId) (ho : o.op = .call { callee := .builtin .len, args := #[x], argTypes := #[t] })
    (vx v : Value) (hx : a.eval x = vx) (hr : ∀ w, C w → (Builtin.len_ #[t] o.type #[vx]).run P w = .ok v w) (h : wpQuiet P ops C Q rest (a.put o.dst v)) : wpQuiet P ops C Q (o :: rest) a := by
  refine wpQuiet_step fun K hK => ?_
  rw [if_pos hw]
  refine ⟨v, fun w hC => ?_, hK _ h⟩
  unfold Oper.quietAt execOp
  simp only [ho, resolve, invoke, builtin, List.map_toArray, List.map_cons, List.map_nil, hx, Sem.run_bind, hr w hC, Sem.run_pure, Result.andThen_ok]
  exact ⟨rfl, rfl⟩

set_option maxRecDepth 100000 in
set_option maxHeartbeats 1600000 in
theorem met_any (w : World) (p o bm : Nat) (F : Nat → Prop) (κ : List Nat → List Nat) (L : List (List Nat)) (h : NAt w p o bm F κ L) :
    Calls Tryz.prog 32 #[.pointer (some ⟨p, o, none⟩)] w fun e w' => e = .returned (.bool (decide (¬ Lone κ L))) ∧ Below w.heap.size w w' := by
  obtain ⟨D, V, n, N⟩ := h.notes
  have s1 := fun (d : Nat) (os : Array Obj) => cell_regrown h.map d os
  have s2 := fun (d : Nat) (os : Array Obj) => cell_regrown h.cnt d os
  have hln : ∀ w', (∃ r : Regrown, w' = grow (redrawn w r.d) r.os) → (Builtin.len_ #[53] 3 #[.map (some bm)]).run Tryz.prog w' = .ok (.int .i64 (Maps.size D)) w' := by
    rintro _ ⟨r, rfl⟩
    exact (N.below (below_regrown w r.d r.os)).map.len info_map 3
  obtain ⟨sz, hsz⟩ : ∃ sz, sz = Maps.size D := ⟨_, rfl⟩
  rw [← hsz] at hln
  have hc := N.cnt
  rw [← hsz] at hc
  obtain ⟨r, hr⟩ : ∃ r, r = decide (¬ Lone κ L) := ⟨_, rfl⟩
  rw [← hr]
  have hd : decide ((sz : Int) < (L.length : Int)) = r := by
    rw [hr]
    by_cases q : Lone κ L
    · have := hc.2.2 q
      rw [decide_eq_false (by omega : ¬ (sz : Int) < (L.length : Int)), decide_eq_false (fun z => z q)]
    · have : sz ≠ L.length := fun z => q (hc.2.1 z)
      rw [decide_eq_true (by omega : (sz : Int) < (L.length : Int)), decide_eq_true q]
  have HD : Hid (decide ((sz : Int) < (L.length : Int)) = r) := hd
  clear N h hc hr hsz hd
  go_enter Tryz.func32, Tryz.ntmps32
  go_wp2_with fail
  refine wp_region_quiet_below (by kernel_rfl) (by kernel_rfl) ?_
  iterate 8 (go_big_quiet_step (fail))
  refine quiet_len (by rfl) _ _ (by rfl) (.map (some bm)) (.int .i64 sz) (by rfl) hln ?_
  repeat (first | go_big_quiet_step (fail) | quiet_step (fail))
  refine wpQuiet_nil ?_
  intro w9 hw'
  obtain ⟨⟨dq, osq⟩, hw''⟩ := hw'
  have HC : Hid (Below w.heap.size w w9) := by rw [hw'']; exact below_regrown w dq osq
  clear hw'' hln s1 s2
  go_wp2_with fail
  go_ret
  refine ⟨?_, HC.out⟩
  rw [← HD.out]
  simp

/-- what a nil book answers -/
theorem nilLen (w : World) : Calls Tryz.prog 7 #[.pointer none] w fun e w' => e = .returned (.tuple #[.int .i64 0, .int .i64 0]) ∧ w' = w := by
  go_enter_defers Tryz.func7, Tryz.ntmps7
  go_wp2
  exact ⟨_, results_tmp2 rfl _ _ _, rfl, rfl⟩
theorem nilSound (w : World) : Calls Tryz.prog 11 #[.pointer none] w fun e w' => e = .returned (.bool false) ∧ w' = w := by
  go_enter_defers Tryz.func11, Tryz.ntmps11
  go_wp2
  exact ⟨_, results_tmp rfl _ _ _, rfl, rfl⟩
theorem nilClashes (w : World) : Calls Tryz.prog 12 #[.pointer none] w fun e w' => e = .returned (.slice none 0 0) ∧ w' = w := by
  go_enter_defers Tryz.func12, Tryz.ntmps12
  go_wp2
  exact ⟨_, results_tmp rfl _ _ _, rfl, rfl⟩
theorem nilForgeries (w : World) : Calls Tryz.prog 14 #[.pointer none] w fun e w' => e = .returned (.slice none 0 0) ∧ w' = w := by
  go_enter_defers Tryz.func14, Tryz.ntmps14
  go_wp2
  exact ⟨_, results_tmp rfl _ _ _, rfl, rfl⟩
set_option maxRecDepth 100000 in
theorem nilAccept (w : World) (v : Value) : Calls Tryz.prog 10 #[.pointer none, v, .agg Z32] w fun e w' => e = .returned (.bool false) ∧ Below w.heap.size w w' := by
  have b1 : Below w.heap.size w (w.alloc (.cells Z32 31)) := (Below.refl _ _).alloc (Nat.le_refl _) _
  have bs : Z32.size = 32 := rfl
  go_enter_defers Tryz.func10, Tryz.ntmps10
  go_wp2
  exact ⟨_, results_tmp rfl _ _ _, rfl, b1⟩
theorem builtZ : Tryz.prog.built 31 [] = some Z32 := by kernel_rfl
theorem zh : IsH (lst 32 (fun _ => 0)) := isH_lst (fun _ => by decide)
theorem nil_store (w : World) : (w.alloc (.cells Z32 31)).heap[w.heap.size]? = some (.cells Z32 31 (0, 0)) := heap_alloc_new _ _
set_option maxRecDepth 100000 in
theorem nilHash (w : World) (v : Value) : Calls Tryz.prog 8 #[.pointer none, v] w fun e w' => e = .returned (.agg Z32) ∧ Below w.heap.size w w' := by
  have z64 := (zero_of_info infoH).1
  have b1 : Below w.heap.size w ((w.alloc (.cells Z32 31)).setRow w.heap.size Z32) := below_setRow ((Below.refl _ _).alloc (Nat.le_refl _) _) (Nat.le_refl _) _
  have hi : (Tryz.prog.info? 31).map (·.size) = some Z32.size := info26
  go_enter_defers Tryz.func8, Tryz.ntmps8
  go_wp2_with (first
    | refine wpList_build_to (by rfl) 31 #[] (by rfl) Z32 builtZ ?_
    | refine wpList_store_row (by rfl) 31 (.tmp 4) (.tmp 8) (by rfl) w.heap.size Z32 (by rfl) (by rfl) 31 Z32 (nil_store w) hi (by rfl) Z32_one ?_)
  exact ⟨_, results_cell_row rfl _ _ w.heap.size 31 Z32 (0, 0) _ rfl (setRow_heap _ _ _ _ _ _ (nil_store w)) Tryz.underlying31 rfl hi, rfl, b1⟩
set_option maxRecDepth 100000 in
theorem nilCode (w : World) (v : Value) : Calls Tryz.prog 9 #[.pointer none, v] w fun e w' => e = .returned (.agg Z32) ∧ Below w.heap.size w w' := by
  have z64 := (zero_of_info infoH).1
  have b1 : Below w.heap.size w ((w.alloc (.cells Z32 31)).setRow w.heap.size Z32) := below_setRow ((Below.refl _ _).alloc (Nat.le_refl _) _) (Nat.le_refl _) _
  have hi : (Tryz.prog.info? 31).map (·.size) = some Z32.size := info26
  go_enter_defers Tryz.func9, Tryz.ntmps9
  go_wp2_with (first
    | refine wpList_build_to (by rfl) 31 #[] (by rfl) Z32 builtZ ?_
    | refine wpList_store_row (by rfl) 31 (.tmp 4) (.tmp 8) (by rfl) w.heap.size Z32 (by rfl) (by rfl) 31 Z32 (nil_store w) hi (by rfl) Z32_one ?_)
  exact ⟨_, results_cell_row rfl _ _ w.heap.size 31 Z32 (0, 0) _ rfl (setRow_heap _ _ _ _ _ _ (nil_store w)) Tryz.underlying31 rfl hi, rfl, b1⟩
end Go.Proofs.YtlhllbggnpcoaaaGreatDoor

/-
  cairnref04.Hash, cairnref04.Code.
-/
namespace Go.Proofs.YtlhllbggnpcoaaaGreatDoor
open Go.RowKit Go.Sort Go.Maps

theorem digest_gd (t : List Nat) : hashA (digest t.length (gd t)) = hA (sum t) := hashA_hA _

set_option maxRecDepth 100000 in
set_option maxHeartbeats 1600000 in
theorem rhashN_any (w : World) (bits : Nat) (hb : bits ≤ 256) (a : Option Addr) (b o c : Nat) (t : List Nat) (hv : Vw w a b o t) (hnil : a = none → c = 0) (hn : t.length ≤ 140737488355000) (hG : Gr w) :
    Calls Tryz.prog 64 #[.int .i64 bits, .slice a t.length c] w fun e w' => e = .returned (.agg (hA (kh bits t))) ∧ Below w.heap.size w w' := by
  have z64 := (zero_of_info infoH).1
  have b1 : Below w.heap.size w (w.alloc (.cells Z32 31)) := (Below.refl _ _).alloc (Nat.le_refl _) _
  obtain ⟨w1, hw1⟩ : ∃ w1, w1 = w.alloc (.cells Z32 31) := ⟨_, rfl⟩
  have hrs : w1.heap[w.heap.size]? = some (.cells Z32 31 (0, 0)) := by rw [hw1]; exact heap_alloc_new _ _
  have lrs : w.heap.size < w1.heap.size := by rw [hw1]; simp
  rw [← hw1] at b1
  have hG1 := hG.below b1
  have cs := rsum_any w1 a b o t.length c (gd t) (hv.below b1) (gd_lt (vw_ok hv).2) hnil (by omega) hG1.rounds hG1.rbig
  rw [digest_gd] at cs
  have HB : Hid (Below w.heap.size w w1 ∧ w1.heap[w.heap.size]? = some (.cells Z32 31 (0, 0)) ∧ w.heap.size < w1.heap.size) := ⟨b1, hrs, lrs⟩
  have hk := sum_isH t
  have HE : Hid (kh bits t = lst 32 (cutf bits (gd (sum t)))) := rfl
  generalize sum t = k at cs hk HE
  have bs := hA_size hk
  have hi3 := hA_info hk
  clear hv hnil hn hG hG1 b1 hrs lrs
  go_enter Tryz.func64, Tryz.ntmps64
  go_wp2_with fail
  rw [← hw1]
  clear hw1
  refine cs.mono ?_
  rintro _ w2 ⟨rfl, hb2⟩
  have bx : ((w2.alloc (.cells Z32 31)).setRow w2.heap.size (hA k)).heap[w2.heap.size]? = some (.cells (hA k) 31 (0, 0)) := setRow_heap _ _ _ _ _ _ (heap_alloc_new _ _)
  have bb : Below w2.heap.size w2 ((w2.alloc (.cells Z32 31)).setRow w2.heap.size (hA k)) := below_setRow ((Below.refl _ _).alloc (Nat.le_refl _) _) (Nat.le_refl _) _
  obtain ⟨w3, hw3⟩ : ∃ w3, w3 = (w2.alloc (.cells Z32 31)).setRow w2.heap.size (hA k) := ⟨_, rfl⟩
  obtain ⟨g, hg⟩ : ∃ g, g = w2.heap.size := ⟨_, rfl⟩
  rw [← hw3, ← hg] at bx
  rw [← hw3] at bb
  have b13 : Below w1.heap.size w1 w3 := hb2.trans (bb.mono hb2.size)
  have H3 : Hid (Below w1.heap.size w1 w3) := b13
  have hcl : ∀ j, j < (hA k).size → w3.cell? ⟨g, j, none⟩ = (hA k)[j]? := fun j _ => cell_of_row _ _ _ _ 31 _ bx
  clear bx bb hb2 b13 cs
  go_upto_region 2 with (refine wpList_store_row (by rfl) 31 (.tmp 5) (.tmp 7) (by rfl) w2.heap.size (hA k) (by rfl) (by rfl) 31 Z32 (heap_alloc_new _ _) (hA_info hk) (hA_Z32 hk) (hA_one hk) ?_)
  rw [← hw3, ← hg]
  clear hw3 hg
  go_wp2_with (refine wpList_load_cells_g (by rfl) 31 (.tmp 5) (by rfl) g (by rfl) (hA k) _ hcl Tryz.underlying31 (by rfl) hi3 ?_)
  refine (rcut_any w3 k hk bits hb).mono ?_
  rintro _ w4 ⟨rfl, hb4⟩
  rw [← HE.out]
  have b14 : Below w1.heap.size w1 w4 := H3.out.trans (hb4.mono H3.out.size)
  have og : w4.heap[w.heap.size]? = some (.cells Z32 31 (0, 0)) := (b14.block _ HB.out.2.2).trans HB.out.2.1
  have H4 : Hid (Below w.heap.size w w4) := HB.out.1.trans (b14.mono HB.out.1.size)
  have hkk := kh_isH bits t
  clear hb4 b14 hcl hi3 bs
  obtain ⟨kk, ekk⟩ : ∃ kk, kk = kh bits t := ⟨_, rfl⟩
  have HKE : Hid (kk = kh bits t) := ekk
  rw [← ekk] at hkk ⊢
  clear ekk
  go_wp2_with (refine wpList_store_row (by rfl) 31 (.tmp 4) (.tmp 10) (by rfl) w.heap.size (hA kk) (by rfl) (by rfl) 31 Z32 og (hA_info hkk) (hA_Z32 hkk) (hA_one hkk) ?_)
  refine bodyPost_ret (v := .agg (hA kk)) ?_ rfl ?_
  · exact results_cell_row rfl _ _ w.heap.size 31 (hA kk) (0, 0) _ rfl (setRow_heap _ _ _ _ _ _ og) Tryz.underlying31 rfl (hA_info hkk)
  · exact ⟨by rw [HKE.out], below_setRow H4.out (Nat.le_refl _) _⟩

set_option maxRecDepth 100000 in
set_option maxHeartbeats 1600000 in
theorem rcodeN_any (w : World) (bits : Nat) (hb : bits ≤ 256) (a1 : Option Addr) (b1 o1 c1 : Nat) (S : Nat → Nat) (hv1 : View w a1 b1 o1 32 (fun i => (S i : Int))) (hS : ∀ i, S i < 256) (hnil1 : a1 = none → c1 = 0)
    (a : Option Addr) (b o c : Nat) (t : List Nat) (hv : Vw w a b o t) (hnil : a = none → c = 0) (hn : t.length ≤ 140737488355000) (hG : Gr w) :
    Calls Tryz.prog 66 #[.int .i64 bits, .slice a1 32 c1, .slice a t.length c] w fun e w' => e = .returned (.agg (hA (kc bits S t))) ∧ Below w.heap.size w w' := by
  have z64 := (zero_of_info infoH).1
  have b1' : Below w.heap.size w (w.alloc (.cells Z32 31)) := (Below.refl _ _).alloc (Nat.le_refl _) _
  obtain ⟨w1, hw1⟩ : ∃ w1, w1 = w.alloc (.cells Z32 31) := ⟨_, rfl⟩
  have hrs : w1.heap[w.heap.size]? = some (.cells Z32 31 (0, 0)) := by rw [hw1]; exact heap_alloc_new _ _
  have lrs : w.heap.size < w1.heap.size := by rw [hw1]; simp
  rw [← hw1] at b1'
  have cs := rcode_any w1 a1 b1 o1 32 c1 S (hv1.below b1') hS hnil1 (by decide) a b o t.length c (gd t) (hv.below b1') (gd_lt (vw_ok hv).2) hnil hn (hG.below b1')
  rw [hmac_gd] at cs
  have HB : Hid (Below w.heap.size w w1 ∧ w1.heap[w.heap.size]? = some (.cells Z32 31 (0, 0)) ∧ w.heap.size < w1.heap.size) := ⟨b1', hrs, lrs⟩
  have hk := cod_isH S t
  have HE : Hid (kc bits S t = lst 32 (cutf bits (gd (cod S t)))) := rfl
  generalize cod S t = k at cs hk HE
  have bs := hA_size hk
  have hi3 := hA_info hk
  clear hv hnil hn hG b1' hrs lrs hv1 hS hnil1
  go_enter Tryz.func66, Tryz.ntmps66
  go_wp2_with fail
  rw [← hw1]
  clear hw1
  refine cs.mono ?_
  rintro _ w2 ⟨rfl, hb2⟩
  have bx : ((w2.alloc (.cells Z32 31)).setRow w2.heap.size (hA k)).heap[w2.heap.size]? = some (.cells (hA k) 31 (0, 0)) := setRow_heap _ _ _ _ _ _ (heap_alloc_new _ _)
  have bb : Below w2.heap.size w2 ((w2.alloc (.cells Z32 31)).setRow w2.heap.size (hA k)) := below_setRow ((Below.refl _ _).alloc (Nat.le_refl _) _) (Nat.le_refl _) _
  obtain ⟨w3, hw3⟩ : ∃ w3, w3 = (w2.alloc (.cells Z32 31)).setRow w2.heap.size (hA k) := ⟨_, rfl⟩
  obtain ⟨g, hg⟩ : ∃ g, g = w2.heap.size := ⟨_, rfl⟩
  rw [← hw3, ← hg] at bx
  rw [← hw3] at bb
  have b13 : Below w1.heap.size w1 w3 := hb2.trans (bb.mono hb2.size)
  have H3 : Hid (Below w1.heap.size w1 w3) := b13
  have hcl : ∀ j, j < (hA k).size → w3.cell? ⟨g, j, none⟩ = (hA k)[j]? := fun j _ => cell_of_row _ _ _ _ 31 _ bx
  clear bx bb hb2 b13 cs
  go_upto_region 2 with (refine wpList_store_row (by rfl) 31 (.tmp 7) (.tmp 10) (by rfl) w2.heap.size (hA k) (by rfl) (by rfl) 31 Z32 (heap_alloc_new _ _) (hA_info hk) (hA_Z32 hk) (hA_one hk) ?_)
  rw [← hw3, ← hg]
  clear hw3 hg
  go_wp2_with (refine wpList_load_cells_g (by rfl) 31 (.tmp 7) (by rfl) g (by rfl) (hA k) _ hcl Tryz.underlying31 (by rfl) hi3 ?_)
  refine (rcut_any w3 k hk bits hb).mono ?_
  rintro _ w4 ⟨rfl, hb4⟩
  rw [← HE.out]
  have b14 : Below w1.heap.size w1 w4 := H3.out.trans (hb4.mono H3.out.size)
  have og : w4.heap[w.heap.size]? = some (.cells Z32 31 (0, 0)) := (b14.block _ HB.out.2.2).trans HB.out.2.1
  have H4 : Hid (Below w.heap.size w w4) := HB.out.1.trans (b14.mono HB.out.1.size)
  have hkk := kc_isH bits S t
  clear hb4 b14 hcl hi3 bs
  obtain ⟨kk, ekk⟩ : ∃ kk, kk = kc bits S t := ⟨_, rfl⟩
  have HKE : Hid (kk = kc bits S t) := ekk
  rw [← ekk] at hkk ⊢
  clear ekk
  go_wp2_with (refine wpList_store_row (by rfl) 31 (.tmp 6) (.tmp 13) (by rfl) w.heap.size (hA kk) (by rfl) (by rfl) 31 Z32 og (hA_info hkk) (hA_Z32 hkk) (hA_one hkk) ?_)
  refine bodyPost_ret (v := .agg (hA kk)) ?_ rfl ?_
  · exact results_cell_row rfl _ _ w.heap.size 31 (hA kk) (0, 0) _ rfl (setRow_heap _ _ _ _ _ _ og) Tryz.underlying31 rfl (hA_info hkk)
  · exact ⟨by rw [HKE.out], below_setRow H4.out (Nat.le_refl _) _⟩
end Go.Proofs.YtlhllbggnpcoaaaGreatDoor
