import Derived.Test.YtadcbhjmbgenbaaDoorRrfq
/-
  node.Refer, node.Empty, with a book and without.
-/
namespace Go.Proofs.YtadcbhjmbgenbaaDoor
open Go.RowKit Go.Sort Go.Maps Go.MuLone

/-- a book of so many bits, with no more than N strings -/
def Bo (w : World) (B sb bits N : Nat) (F : Nat → Prop) : Prop := ∃ st, Book w B sb st F ∧ st.bits = bits ∧ st.LH.length ≤ N
theorem Bo.turn {w w' : World} {B sb bits N : Nat} {F G : Nat → Prop} (h : Bo w B sb bits N F) (t : Turn G w w') (hd : ∀ i, F i → ¬ G i) : Bo w' B sb bits N F := by
  obtain ⟨st, h1, h2, h3⟩ := h
  exact ⟨st, h1.turn t hd, h2, h3⟩
theorem Bo.below {w w' : World} {B sb bits N : Nat} {F : Nat → Prop} (h : Bo w B sb bits N F) (b : Below w.heap.size w w') : Bo w' B sb bits N F := h.turn (Turn.of_below b (F := fun _ => False)) (fun _ _ q => q)
theorem Bo.lim {w : World} {B sb bits N : Nat} {F : Nat → Prop} (h : Bo w B sb bits N F) : ∀ i, F i → B ≤ i ∧ i < w.heap.size := by
  obtain ⟨st, h1, -⟩ := h
  exact h1.lim
theorem ins_le (s : List Nat) : ∀ L : List (List Nat), (ins s L).length ≤ L.length + 1
  | [] => by simp [ins]
  | x :: r => by
    rw [ins_cons]
    split
    · simp
    · split
      · simp
      · have := ins_le s r
        simp only [List.length_cons]
        omega
/-- what a call that hashes leaves of a book -/
def Bt (w w' : World) (B sb bits N : Nat) (F : Nat → Prop) : Prop := (∃ F', (∀ i, F i → F' i) ∧ (∀ i, F' i → F i ∨ w.heap.size ≤ i) ∧ Bo w' B sb bits N F') ∧ Turn F w w'
theorem bhash_any {P : Nat → Prop} {w : World} {B sb bits N : Nat} {F : Nat → Prop} (h : Bo w B sb bits N F) (hG : Ground w) (hB : 2 < B) (hN : N ≤ 1000) {v : Value} {s : List Nat} (hv : Vf P w v s) (hP : ∀ i, P i → ¬ F i) :
    Calls Tryd.prog 15 #[.pointer (some ⟨sb, 0, none⟩), v] w fun e w' => e = .returned (.agg (bv (kh bits s)).toArray) ∧ Bt w w' B sb bits (N + 1) F := by
  obtain ⟨st, h1, h2, h3⟩ := h
  obtain ⟨a, b, off, c, rfl, hv, hc, hnil, hl, hp⟩ := hv
  refine (hash_any4 w B sb st F h1 hG hB (by omega) a b off c s hv hc (by omega) (fun h0 => hP _ (hp h0))).mono ?_
  rintro e w' ⟨rfl, ⟨F', q1, q2, q3⟩, t⟩
  rw [h2]
  refine ⟨rfl, ⟨F', q1, q2, _, q3, h2, ?_⟩, t⟩
  have := ins_le s st.LH
  show (ins s st.LH).length ≤ N + 1
  omega
set_option maxRecDepth 100000 in
set_option maxHeartbeats 1600000 in
theorem nRefer_nil {w : World} {v : Value} : Calls Tryd.prog 10 #[.pointer none, v] w fun e w' => e = .returned (.agg (rcs rz (.slice none 0 0)).toArray) ∧ Below w.heap.size w w' := by
  have hz := zvR
  have g0 : (w.alloc (.cells (rcs rz (.slice none 0 0)).toArray 33)).heap[w.heap.size]? = some (.cells (rcs rz (.slice none 0 0)).toArray 33 (0, 0)) := heap_alloc_new _ _
  have bd := builtR0
  have HB : Hid (Below w.heap.size w (w.alloc (.cells (rcs rz (.slice none 0 0)).toArray 33))) := below_new _ _
  go_enter Tryd.func10, Tryd.ntmps10
  go_wp2_with (first
    | refine wpList_bdL (by kernel_rfl) _ _ (by rfl) _ bd ?_
    | refine wpList_stR (by kernel_rfl) _ _ (by rfl) _ rz rz (.slice none 0 0) (.slice none 0 0) z32_isH z32_isH (by rfl) g0 (by rfl) (by rfl) ?_)
  have hr3 := setRow_heap (w.alloc (.cells (rcs rz (.slice none 0 0)).toArray 33)) w.heap.size _ (rcs rz (.slice none 0 0)).toArray _ _ g0
  refine bodyPost_ret (resR rfl _ _ w.heap.size rz _ z32_isH (rng_row hr3) rfl) rfl ?_
  exact ⟨rfl, below_setRow HB.out (Nat.le_refl _) _⟩
set_option maxRecDepth 100000 in
set_option maxHeartbeats 1600000 in
theorem nRefer_any {P : Nat → Prop} {w : World} {B sb bits N : Nat} {F : Nat → Prop} (h : Bo w B sb bits N F) (hG : Ground w) (hB : 2 < B) (hN : N ≤ 1000) {v : Value} {s : List Nat} (hv : Vf P w v s) (hP : ∀ i, P i → ¬ F i) :
    Calls Tryd.prog 10 #[.pointer (some ⟨sb, 0, none⟩), v] w fun e w' => ∃ (u : Value) (F' : Nat → Prop), e = .returned (.agg (rcs (rfr bits s) u).toArray) ∧ Vf (fun q => w.heap.size < q ∧ ¬ F' q) w' u (rfr bits s).b ∧ (∀ i, F' i → F i ∨ w.heap.size ≤ i) ∧ Bo w' B sb bits (N + 1) F' ∧ Turn F w w' := by
  have hz := zvR
  have hH := rfr_isH bits s
  have hlim := h.lim
  have HG0 : Hid (Below w.heap.size w (w.alloc (.cells (rcs rz (.slice none 0 0)).toArray 33)) ∧ (w.alloc (.cells (rcs rz (.slice none 0 0)).toArray 33)).heap[w.heap.size]? = some (.cells (rcs rz (.slice none 0 0)).toArray 33 (0, 0)) ∧ (w.alloc (.cells (rcs rz (.slice none 0 0)).toArray 33)).heap.size = w.heap.size + 1) := ⟨below_new _ _, heap_alloc_new _ _, by simp⟩
  have HL : Hid (∀ i, F i → i < w.heap.size) := fun i q => (hlim i q).2
  have hlen : s.length ≤ 140737488351232 := by
    obtain ⟨_, _, _, _, _, _, _, _, q, _⟩ := hv
    exact q
  have hsb : ∀ x ∈ s, x < 256 := by
    obtain ⟨_, _, _, _, _, q, _⟩ := hv
    exact (vw_ok q).2
  by_cases h32 : s.length < 32
  · have er : rfr bits s = ⟨2, z32, s⟩ := by unfold rfr; rw [if_pos h32]
    rw [er]
    have i1 : (s.length : Int) < 32 := by omega
    have HBo : Hid (Bo w B sb bits N F) := h
    obtain ⟨a, b, off, c, rfl, hv, hc, hnil, hl, -⟩ := hv
    have K := clone_any (w.alloc (.cells (rcs rz (.slice none 0 0)).toArray 33)) a b off c s (hv.below HG0.out.1) (by omega)
    have HS : Hid (s.length ≤ 140737488351232 ∧ ∀ x ∈ s, x < 256) := ⟨hlen, hsb⟩
    obtain ⟨n, en⟩ : ∃ n, n = s.length := ⟨_, rfl⟩
    have HN : Hid (n = s.length) := en
    rw [← en] at K i1 ⊢
    clear hv hnil hc hl hG en hH er h32 h hlim hlen hsb hP hN
    go_enter Tryd.func10, Tryd.ntmps10
    go_wp2_with (first
      | (go_at_call 18; go_loud (refine K.mono ?_; rintro e w2 ⟨v2, rfl, own2, b2⟩; obtain ⟨a4, c4, rfl⟩ := own_slice own2; have g4 := (b2.block w.heap.size (by rw [HG0.out.2.2]; omega)).trans HG0.out.2.1; have bd := builtR2 a4 n c4 s; have HZ : Hid (w2.ownsRow (w.alloc (.cells (rcs rz (.slice none 0 0)).toArray 33)).heap.size 5 1 (.slice a4 n c4) n (bv s) ∧ Below w.heap.size w w2) := ⟨own2, ch HG0.out.1 b2⟩; clear own2 b2 K))
      | refine wpList_bdL (by kernel_rfl) _ _ (by rfl) _ bd ?_
      | refine wpList_stR (by kernel_rfl) _ _ (by rfl) _ ⟨2, z32, s⟩ rz (.slice a4 n c4) (.slice none 0 0) z32_isH z32_isH (by rfl) g4 (by rfl) (by rfl) ?_)
    have hr3 := setRow_heap w2 w.heap.size _ (rcs ⟨2, z32, s⟩ (.slice a4 n c4)).toArray _ _ g4
    refine bodyPost_ret (resR rfl _ _ w.heap.size ⟨2, z32, s⟩ _ z32_isH (rng_row hr3) rfl) rfl ?_
    have BB := below_setRow HZ.out.2 (Nat.le_refl _) (rcs ⟨2, z32, s⟩ (.slice a4 n c4)).toArray
    refine ⟨.slice a4 n c4, F, rfl, ?_, fun _ q => Or.inl q, ?_, Turn.of_below BB⟩
    · have o := HZ.out.1
      rw [HG0.out.2.2] at o
      have vf : Vf (fun q => w.heap.size < q) w2 (.slice a4 n c4) s := by
        rw [HN.out] at o ⊢
        exact vf_of_own o HS.out.2 HS.out.1 (fun q hq => (o.lt q hq).1)
      refine (vf.same (w' := w2.setRow w.heap.size (rcs ⟨2, z32, s⟩ (.slice a4 n c4)).toArray) (fun i hi _ => setRow_other _ _ _ _ (by omega))).mono (fun q hq _ => ⟨hq, fun e => ?_⟩)
      have := HL.out q e
      omega
    · obtain ⟨st, z1, z2, z3⟩ := HBo.out.below BB
      exact ⟨st, z1, z2, by omega⟩
  · have er : rfr bits s = ⟨1, kh bits s, []⟩ := by unfold rfr; rw [if_neg h32]
    rw [er]
    have i1 : ¬ (s.length : Int) < 32 := by omega
    have K := bhash_any (h.below HG0.out.1) (hG.below HG0.out.1) hB hN (hv.below HG0.out.1) hP
    have hk := kh_isH bits s
    obtain ⟨k, ek⟩ : ∃ k, k = kh bits s := ⟨_, rfl⟩
    rw [← ek] at K hk ⊢
    have bd := builtR1 k hk
    obtain ⟨a, b, off, c, rfl, hv, hc, hnil, hl, -⟩ := hv
    generalize s.length = n at *
    clear hv hnil hc hl hG ek hH er h32 h hlim hlen hsb hP
    unfold Bt at K
    go_enter Tryd.func10, Tryd.ntmps10
    go_wp2_with (first
      | (go_at_call 15; go_loud (refine K.mono ?_; rintro e w2 ⟨rfl, hbk, t2⟩; have g4 := (t2.block w.heap.size (by rw [HG0.out.2.2]; omega) (fun q => by have := HL.out _ q; omega)).trans HG0.out.2.1; have HZ : Hid ((∃ F', (∀ i, F i → F' i) ∧ (∀ i, F' i → F i ∨ (w.alloc (.cells (rcs rz (.slice none 0 0)).toArray 33)).heap.size ≤ i) ∧ Bo w2 B sb bits (N + 1) F') ∧ Turn F w w2) := ⟨hbk, (Turn.of_below HG0.out.1 (F := F)).trans t2 (fun i q => Or.inl q)⟩; clear hbk t2 K))
      | refine wpList_bdL (by kernel_rfl) _ _ (by rfl) _ bd ?_
      | refine wpList_stR (by kernel_rfl) _ _ (by rfl) _ ⟨1, k, []⟩ rz (.slice none 0 0) (.slice none 0 0) hk z32_isH (by rfl) g4 (by rfl) (by rfl) ?_)
    have hr3 := setRow_heap w2 w.heap.size _ (rcs ⟨1, k, []⟩ (.slice none 0 0)).toArray _ _ g4
    refine bodyPost_ret (resR rfl _ _ w.heap.size ⟨1, k, []⟩ _ hk (rng_row hr3) rfl) rfl ?_
    obtain ⟨⟨F', -, q2, q3⟩, t⟩ := HZ.out
    rw [HG0.out.2.2] at q2
    refine ⟨.slice none 0 0, F', rfl, vf_nil _ _, fun i q => (q2 i q).imp id (fun z => by omega), ?_, t.trans (Turn.setRow (F := fun i => i = w.heap.size) _ _ _ rfl) (fun i q => Or.inr (by omega))⟩
    exact q3.turn (Turn.setRow (F := fun i => i = w.heap.size) _ _ _ rfl) (fun i q z => by
      rcases q2 i q with y | y
      · have := HL.out i y; omega
      · omega)
theorem resH {fn : Func} {p : Tmp} (h : fn.results = #[.cell p 31]) (tmps : Array Value) (w : World) (g : Nat) (s : List Nat) (hs : IsH s) (hg : w.rangeAt g 0 (bv s)) (hp : tmps.getD p undef = .pointer (some ⟨g, 0, none⟩)) :
    (results fn tmps).run Tryd.prog w = .ok (.agg (bv s).toArray) w := by
  have hp' : tmps[p]?.getD undef = .pointer (some ⟨g, 0, none⟩) := by simpa using hp
  have hl := run_loadVar_mid (P := Tryd.prog) w g 0 31 _ _ hg Tryd.underlying31 rfl (info_bv hs)
  simp [results, h, hp', asAddr, hl]
theorem wpList_stH {ops : Array Oper} {rest : List Oper} {op : Oper} {a : Act} {w : World} {Q : Exit → Act → World → Prop} (hw : Region.wanted op (yielded ops a.tmps) = true) (x y : Operand) (ho : op.op = .store 31 x y) (b : Nat) (s t : List Nat) (hs : IsH s) (ht : IsH t) (hb : w.heap[b]? = some (.cells (bv t).toArray 31 (0, 0)))
    (hx : a.eval x = .pointer (some ⟨b, 0, none⟩)) (hy : a.eval y = .agg (bv s).toArray) (h : wpList Tryd.prog ops Q rest (a.put op.dst undef) (w.setRow b (bv s).toArray)) : wpList Tryd.prog ops Q (op :: rest) a w :=
  wpList_g hw (wp_store_row 31 x y ho b (bv s).toArray hx hy 31 (bv t).toArray hb (by rw [List.size_toArray]; exact info_bv hs) (by rw [List.size_toArray, List.size_toArray, bv_len, bv_len, hs.1, ht.1]) (all_oneCell_toArray (bv_one _)) h)
theorem zeroH : (Tryd.prog.info? 31).map (fun i => (i.zero, i.size)) = some (some (.agg (bv z32).toArray), 32) := by kernel_rfl
theorem zvH (w : World) : (zeroValue 31).run Tryd.prog w = .ok (.agg (bv z32).toArray) w := (zero_of_info zeroH).1 w
def s128 : List Nat := [128]
theorem vf_128 (w : World) : Vf (fun q => q = w.heap.size) (w.alloc (.cells #[.int .u8 128] 5)) (.slice (some ⟨w.heap.size, 0, none⟩) 1 1) s128 := by
  refine ⟨some ⟨w.heap.size, 0, none⟩, w.heap.size, 0, 1, rfl, ⟨fun _ => rfl, fun i hi => ?_, fun i hi => ?_, by simp [s128]⟩, by simp [s128], (by intro q; cases q), by simp [s128], fun _ => rfl⟩
  · have : i = 0 := by simp [s128] at hi; omega
    subst this
    rw [cell_of_row _ _ _ _ 5 _ (heap_alloc_new w _)]
    rfl
  · have : i = 0 := by simp [s128] at hi; omega
    subst this
    exact ⟨by decide, by decide⟩
set_option maxRecDepth 100000 in
set_option maxHeartbeats 1600000 in
theorem nEmpty_nil {w : World} : Calls Tryd.prog 13 #[.pointer none] w fun e w' => e = .returned (.agg (bv z32).toArray) ∧ Below w.heap.size w w' := by
  have hz := zvH
  have K := nilHash ((w.alloc (.cells (bv z32).toArray 31)).alloc (.cells #[.int .u8 128] 5)) (.slice (some ⟨w.heap.size + 1, 0, none⟩) 1 1)
  rw [← z32_arr] at K
  have HG0 : Hid (Below w.heap.size w ((w.alloc (.cells (bv z32).toArray 31)).alloc (.cells #[.int .u8 128] 5)) ∧ ((w.alloc (.cells (bv z32).toArray 31)).alloc (.cells #[.int .u8 128] 5)).heap[w.heap.size]? = some (.cells (bv z32).toArray 31 (0, 0)) ∧ w.heap.size < ((w.alloc (.cells (bv z32).toArray 31)).alloc (.cells #[.int .u8 128] 5)).heap.size) := ⟨(below_new _ _).alloc (by simp) _, (heap_alloc_old _ _ (by simp)).trans (heap_alloc_new _ _), by simp; omega⟩
  obtain ⟨zz, ez⟩ : ∃ z, z = z32 := ⟨_, rfl⟩
  have hzz : IsH zz := by rw [ez]; exact z32_isH
  rw [← ez] at K HG0 hz ⊢
  clear ez
  go_enter Tryd.func13, Tryd.ntmps13
  go_wp2_with (first
    | (go_at_call 15; go_loud (refine K.mono ?_; rintro e w2 ⟨rfl, b2⟩; have g4 := (b2.block w.heap.size HG0.out.2.2).trans HG0.out.2.1; have HZ : Hid (Below w.heap.size w w2) := ch HG0.out.1 b2; clear b2 K))
    | refine wpList_stH (by kernel_rfl) _ _ (by rfl) w.heap.size zz zz hzz hzz g4 (by rfl) (by rfl) ?_)
  have hr3 := setRow_heap w2 w.heap.size _ (bv zz).toArray _ _ g4
  refine bodyPost_ret (resH rfl _ _ w.heap.size zz hzz (rng_row hr3) rfl) rfl ?_
  exact ⟨rfl, below_setRow HZ.out (Nat.le_refl _) _⟩
set_option maxRecDepth 100000 in
set_option maxHeartbeats 1600000 in
theorem nEmpty_any {w : World} {B sb bits N : Nat} {F : Nat → Prop} (h : Bo w B sb bits N F) (hG : Ground w) (hB : 2 < B) (hN : N ≤ 1000) :
    Calls Tryd.prog 13 #[.pointer (some ⟨sb, 0, none⟩)] w fun e w' => e = .returned (.agg (bv (kh bits s128)).toArray) ∧ Bt w w' B sb bits (N + 1) F := by
  have hz := zvH
  have hlim := h.lim
  have HL : Hid (∀ i, F i → i < w.heap.size) := fun i q => (hlim i q).2
  have HG0 : Hid (Below w.heap.size w ((w.alloc (.cells (bv z32).toArray 31)).alloc (.cells #[.int .u8 128] 5)) ∧ ((w.alloc (.cells (bv z32).toArray 31)).alloc (.cells #[.int .u8 128] 5)).heap[w.heap.size]? = some (.cells (bv z32).toArray 31 (0, 0)) ∧ ((w.alloc (.cells (bv z32).toArray 31)).alloc (.cells #[.int .u8 128] 5)).heap.size = w.heap.size + 2) := ⟨(below_new _ _).alloc (by simp) _, (heap_alloc_old _ _ (by simp)).trans (heap_alloc_new _ _), by simp⟩
  have vf := vf_128 (w.alloc (.cells (bv z32).toArray 31))
  rw [World.size_alloc] at vf
  have K := bhash_any (h.below HG0.out.1) (hG.below HG0.out.1) hB hN vf (fun i q z => by have := HL.out i z; omega)
  have hk := kh_isH bits s128
  obtain ⟨k, ek⟩ : ∃ k, k = kh bits s128 := ⟨_, rfl⟩
  rw [← ek] at K hk ⊢
  obtain ⟨zz, ez⟩ : ∃ z, z = z32 := ⟨_, rfl⟩
  have hzz : IsH zz := by rw [ez]; exact z32_isH
  rw [← ez] at K HG0 hz
  clear ez ek h hG hlim vf
  unfold Bt at K
  go_enter Tryd.func13, Tryd.ntmps13
  go_wp2_with (first
    | (go_at_call 15; go_loud (refine K.mono ?_; rintro e w2 ⟨rfl, hbk, t2⟩; have g4 := (t2.block w.heap.size (by rw [HG0.out.2.2]; omega) (fun q => by have := HL.out _ q; omega)).trans HG0.out.2.1; have HZ : Hid ((∃ F', (∀ i, F i → F' i) ∧ (∀ i, F' i → F i ∨ w.heap.size + 2 ≤ i) ∧ Bo w2 B sb bits (N + 1) F') ∧ Turn F w w2) := ⟨(by rw [HG0.out.2.2] at hbk; exact hbk), (Turn.of_below HG0.out.1 (F := F)).trans t2 (fun i q => Or.inl q)⟩; clear hbk t2 K))
    | refine wpList_stH (by kernel_rfl) _ _ (by rfl) w.heap.size k zz hk hzz g4 (by rfl) (by rfl) ?_)
  have hr3 := setRow_heap w2 w.heap.size _ (bv k).toArray _ _ g4
  refine bodyPost_ret (resH rfl _ _ w.heap.size k hk (rng_row hr3) rfl) rfl ?_
  obtain ⟨⟨F', q1, q2, q3⟩, t⟩ := HZ.out
  refine ⟨rfl, ⟨F', q1, fun i q => (q2 i q).imp id (fun z => by omega), ?_⟩, t.trans (Turn.setRow (F := fun i => i = w.heap.size) _ _ _ rfl) (fun i q => Or.inr (by omega))⟩
  exact q3.turn (Turn.setRow (F := fun i => i = w.heap.size) _ _ _ rfl) (fun i q z => by
    rcases q2 i q with y | y
    · have := HL.out i y; omega
    · omega)
end Go.Proofs.YtadcbhjmbgenbaaDoor
