import Derived.Test.YtadcbhjmbgenbaaDoorRfsq
/-
  Refer, Empty: the reference's and the program's.
-/
namespace Go.Proofs.YtadcbhjmbgenbaaDoor
open Go.RowKit Go.Sort Go.Maps Go.MuLone

def rfr (bits : Nat) (s : List Nat) : Rf := if s.length < 32 then ⟨2, z32, s⟩ else ⟨1, kh bits s, []⟩
theorem rfr_isH (bits : Nat) (s : List Nat) : IsH (rfr bits s).h := by
  unfold rfr
  split
  · exact z32_isH
  · exact kh_isH bits s
theorem fold_set (off : Nat) (xs : List Value) : ∀ (k : Nat) (cs : Array Value), off + k + xs.length ≤ cs.size →
    ((xs.zipIdx k).foldl (fun (cs : Array Value) (p : Value × Nat) => cs.setIfInBounds (off + p.2) p.1) cs).size = cs.size ∧
    ∀ i, ((xs.zipIdx k).foldl (fun (cs : Array Value) (p : Value × Nat) => cs.setIfInBounds (off + p.2) p.1) cs)[i]? = if off + k ≤ i ∧ i < off + k + xs.length then xs[i - (off + k)]? else cs[i]? := by
  induction xs with
  | nil => intro k cs _; exact ⟨rfl, fun i => by rw [if_neg (by simp)]; rfl⟩
  | cons x t ih =>
    intro k cs h
    simp only [List.length_cons] at h ⊢
    rw [List.zipIdx_cons, List.foldl_cons]
    obtain ⟨h1, h2⟩ := ih (k + 1) (cs.setIfInBounds (off + k) x) (by rw [Array.size_setIfInBounds]; omega)
    refine ⟨by rw [h1, Array.size_setIfInBounds], fun i => ?_⟩
    rw [h2 i]
    by_cases q : off + (k + 1) ≤ i ∧ i < off + (k + 1) + t.length
    · rw [if_pos q, if_pos (by omega), show i - (off + k) = (i - (off + (k + 1))) + 1 by omega, List.getElem?_cons_succ]
    · rw [if_neg q, Array.getElem?_setIfInBounds]
      by_cases q2 : off + k = i
      · rw [if_pos q2, if_pos (by omega), if_pos (by omega), q2, Nat.sub_self]
        rfl
      · rw [if_neg q2, if_neg (by omega)]
theorem fold_list (off : Nat) (a x x' b : List Value) (ha : a.length = off) (hx : x'.length = x.length) :
    (x'.toArray.zipIdx.foldl (fun (cs : Array Value) (p : Value × Nat) => cs.setIfInBounds (off + p.2) p.1) (a ++ (x ++ b)).toArray) = (a ++ (x' ++ b)).toArray := by
  have key := fold_set off x' 0 (a ++ (x ++ b)).toArray (by simp; omega)
  have e : x'.toArray.zipIdx.foldl (fun (cs : Array Value) (p : Value × Nat) => cs.setIfInBounds (off + p.2) p.1) (a ++ (x ++ b)).toArray = (x'.zipIdx 0).foldl (fun (cs : Array Value) (p : Value × Nat) => cs.setIfInBounds (off + p.2) p.1) (a ++ (x ++ b)).toArray := by
    rw [← Array.foldl_toList]
    simp
  rw [e]
  apply Array.ext_getElem?
  intro i
  rw [key.2 i]
  simp only [List.getElem?_toArray, Nat.add_zero]
  by_cases h1 : off ≤ i ∧ i < off + x'.length
  · rw [if_pos h1, List.getElem?_append_right (by omega), List.getElem?_append_left (by omega), ha]
  · rw [if_neg h1]
    by_cases h2 : i < off
    · rw [List.getElem?_append_left (by omega), List.getElem?_append_left (by omega)]
    · rw [List.getElem?_append_right (by omega), List.getElem?_append_right (by omega), List.getElem?_append_right (by omega), List.getElem?_append_right (by omega), hx]
theorem fill_step {place : Nat → Option (Nat × Nat)} {cells : Array Value} {i off size : Nat} {v : Value} {rest : List (Nat × Value)} (hp : place i = some (off, size)) (hs : v.cells.size = size) (hl : off + size ≤ cells.size) :
    Instr.fill place cells ((i, v) :: rest) = Instr.fill place (v.cells.zipIdx.foldl (fun cs (c, j) => cs.setIfInBounds (off + j) c) cells) rest := by
  rw [Instr.fill, hp]
  simp only [hs]
  rw [if_neg (by simp; omega)]
theorem builtR_fill (parts : List (Nat × Value)) : Tryd.prog.built 33 parts = Instr.fill (fun i => (#[(0, 1), (1, 32), (33, 1)] : Array (Nat × Nat))[i]?) (rcs rz (.slice none 0 0)).toArray parts := by kernel_rfl
theorem builtR1 (s : List Nat) (hs : IsH s) : Tryd.prog.built 33 [(0, .int .i64 1), (1, .agg (bv s).toArray)] = some (rcs ⟨1, s, []⟩ (.slice none 0 0)).toArray := by
  rw [builtR_fill, fill_step (off := 0) (size := 1) rfl rfl (by rw [List.size_toArray, rcs_len z32_isH]; omega)]
  have e : ((Value.int .i64 1).cells.zipIdx.foldl (fun (cs : Array Value) (p : Value × Nat) => cs.setIfInBounds (0 + p.2) p.1) (rcs rz (.slice none 0 0)).toArray) = ([Value.int .i64 1] ++ (bv z32 ++ [Value.slice none 0 0])).toArray := by kernel_rfl
  rw [e, fill_step (off := 1) (size := 32) rfl (by simp [Value.cells, bv_len, hs.1]) (by simp [bv_len, z32_isH.1])]
  rw [show (Value.agg (bv s).toArray).cells = (bv s).toArray from rfl, fold_list 1 _ _ (bv s) _ rfl (by rw [bv_len, bv_len, hs.1, z32_isH.1])]
  rfl
theorem below_new (w : World) (o : Obj) : Below w.heap.size w (w.alloc o) := (Below.refl _ _).alloc (Nat.le_refl _) _
set_option maxRecDepth 100000 in
set_option maxHeartbeats 1600000 in
theorem rRefer_any {P : Nat → Prop} {w : World} {bits : Nat} (hb : bits ≤ 256) {v : Value} {s : List Nat} (h : Vf P w v s) (hG : Gr w) :
    Calls Tryd.prog 8 #[.int .i64 bits, v] w fun e w' => ∃ u, e = .returned (.agg (rcs (rfr bits s) u).toArray) ∧ Vf (fun q => w.heap.size < q) w' u (rfr bits s).b ∧ Below w.heap.size w w' := by
  have hz := zvR
  have hH := rfr_isH bits s
  obtain ⟨a, b, off, c, rfl, hv, hc, hnil, hl, -⟩ := h
  have HG0 : Hid (Below w.heap.size w (w.alloc (.cells (rcs rz (.slice none 0 0)).toArray 33)) ∧ (w.alloc (.cells (rcs rz (.slice none 0 0)).toArray 33)).heap[w.heap.size]? = some (.cells (rcs rz (.slice none 0 0)).toArray 33 (0, 0)) ∧ (w.alloc (.cells (rcs rz (.slice none 0 0)).toArray 33)).heap.size = w.heap.size + 1) := ⟨below_new _ _, heap_alloc_new _ _, by simp⟩
  by_cases h32 : s.length < 32
  · have er : rfr bits s = ⟨2, z32, s⟩ := by unfold rfr; rw [if_pos h32]
    rw [er]
    have i1 : (s.length : Int) < 32 := by omega
    have own0 := World.ownsRow_lit (base := w.heap.size + 1) (e := 5) (size := 1) (w.alloc (.cells (rcs rz (.slice none 0 0)).toArray 33)) #[] 0 (by simp) (by decide) rfl
    rw [HG0.out.2.2] at own0
    have HV : Hid (View ((w.alloc (.cells (rcs rz (.slice none 0 0)).toArray 33)).alloc (.cells #[] 5)) a b off s.length (fun i => ((gd s i : Nat) : Int)) ∧ (a = none → c = 0) ∧ ∀ x ∈ s, x < 256) := ⟨hv.below ((below_new _ _).alloc (by simp) _), hnil, (vw_ok hv).2⟩
    have HS : Hid (s.length ≤ 140737488351232) := hl
    obtain ⟨n, en⟩ : ∃ n, n = s.length := ⟨_, rfl⟩
    have HN : Hid (n = s.length) := en
    rw [← en] at HV i1 ⊢
    have n32 : n < 32 := by omega
    clear hv hnil hc hl hG en hH er h32
    go_enter Tryd.func8, Tryd.ntmps8
    go_wp2_with (first
      | (refine wpList_append_bytes (by rfl) (.tmp 8) (.tmp 9) (by rfl) (w.heap.size + 1) _ 0 _ (by rfl) own0 a b off n c _ (by rfl) HV.out.1 HV.out.2.1 (by omega) (by simp) ?_; intro v2 w2 own2 gr2 nn2; have own2 : w2.ownsRow (w.heap.size + 1) 5 1 v2 n (bv s) := (by rw [← vals_bv, ← HN.out]; simpa using own2); have b2 : Below (w.heap.size + 1) (w.alloc (.cells (rcs rz (.slice none 0 0)).toArray 33)) w2 := (((Below.refl _ _).alloc (by simp) _).trans (grown_below gr2 own0 (Nat.le_refl _) (by simp))); obtain ⟨a4, c4, rfl⟩ := own_slice own2; have g4 := (b2.block w.heap.size (by omega)).trans HG0.out.2.1; have bd := builtR2 a4 n c4 s; have HZ : Hid (w2.ownsRow (w.heap.size + 1) 5 1 (.slice a4 n c4) n (bv s) ∧ Below w.heap.size w w2) := ⟨own2, HG0.out.1.trans (b2.mono (by omega))⟩; clear own2 gr2 nn2 own0 b2)
      | refine wpList_bdL (by kernel_rfl) _ _ (by rfl) _ bd ?_
      | refine wpList_stR (by kernel_rfl) _ _ (by rfl) _ ⟨2, z32, s⟩ rz (.slice a4 n c4) (.slice none 0 0) z32_isH z32_isH (by rfl) g4 (by rfl) (by rfl) ?_)
    have hr3 := setRow_heap w2 w.heap.size _ (rcs ⟨2, z32, s⟩ (.slice a4 n c4)).toArray _ _ g4
    refine bodyPost_ret (resR rfl _ _ w.heap.size ⟨2, z32, s⟩ _ z32_isH (rng_row hr3) rfl) rfl ?_
    refine ⟨.slice a4 n c4, rfl, ?_, below_setRow HZ.out.2 (Nat.le_refl _) _⟩
    have o := HZ.out.1
    have vf : Vf (fun q => w.heap.size < q) w2 (.slice a4 n c4) s := by
      rw [HN.out] at o ⊢
      exact vf_of_own o HV.out.2.2 HS.out (fun q hq => (o.lt q hq).1)
    exact vf.same (fun i hi _ => setRow_other _ _ _ _ (by omega))
  · have er : rfr bits s = ⟨1, kh bits s, []⟩ := by unfold rfr; rw [if_neg h32]
    rw [er]
    have i1 : ¬ (s.length : Int) < 32 := by omega
    have K := rhashN_any _ bits hb a b off c s (hv.below HG0.out.1) hnil (by omega) (hG.below HG0.out.1)
    have hk := kh_isH bits s
    unfold hA at K
    obtain ⟨k, ek⟩ : ∃ k, k = kh bits s := ⟨_, rfl⟩
    rw [← ek] at K hk ⊢
    have bd := builtR1 k hk
    generalize s.length = n at *
    clear hv hnil hc hl hG ek hH er h32
    go_enter Tryd.func8, Tryd.ntmps8
    go_wp2_with (first
      | (go_at_call 14; go_loud (refine K.mono ?_; rintro e w2 ⟨rfl, b2⟩; have g4 := (b2.block w.heap.size (by rw [HG0.out.2.2]; omega)).trans HG0.out.2.1; have HZ : Hid (Below w.heap.size w w2) := ch HG0.out.1 b2; clear b2 K))
      | refine wpList_bdL (by kernel_rfl) _ _ (by rfl) _ bd ?_
      | refine wpList_stR (by kernel_rfl) _ _ (by rfl) _ ⟨1, k, []⟩ rz (.slice none 0 0) (.slice none 0 0) hk z32_isH (by rfl) g4 (by rfl) (by rfl) ?_)
    have hr3 := setRow_heap w2 w.heap.size _ (rcs ⟨1, k, []⟩ (.slice none 0 0)).toArray _ _ g4
    refine bodyPost_ret (resR rfl _ _ w.heap.size ⟨1, k, []⟩ _ hk (rng_row hr3) rfl) rfl ?_
    exact ⟨.slice none 0 0, rfl, vf_nil _ _, below_setRow HZ.out (Nat.le_refl _) _⟩
end Go.Proofs.YtadcbhjmbgenbaaDoor
