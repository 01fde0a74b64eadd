import Derived.Test.YtepeolbbplodfaaGreatDoorFlq
import Derived.Test.YtepeolbbplodfaaGreatDoorFyq
import Derived.Test.YtepeolbbplodfaaGreatDoorDe2q
/-
  cairnref07: ref. (Written by gen_fr.py.)
-/
namespace Go.Proofs.YtepeolbbplodfaaGreatDoor
open Go.RowKit

/-- what the reference's Decode answers -/
def DcPst (s : List Nat) (w : World) (e : Ending) (w' : World) : Prop :=
  ∃ u, e = .returned (.tuple #[.agg (nc (dN s) u).toArray, .int .i64 ((dE s : Nat) : Int)]) ∧ Nin w' (dN s) u ∧ Below w.heap.size w w'
def DecR (s : List Nat) : Prop := ∀ (w : World) (v : Value), Vb w v s → Calls Tryz.prog 71 #[v] w (DcPst s w)
def rkd (r : Rf) : Int := if r.k = 2 then (dN r.b).k else 0
theorem wpList_st24n {ops : Array Oper} {rest : List Oper} {op : Oper} {a : Act} {w : World} {Q : Exit → Act → World → Prop} (hw : Region.wanted op (yielded ops a.tmps) = true) (x y : Operand) (ho : op.op = .store 31 x y) (s t : List Nat) (hs : s.length = 32) (ht : t.length = 32) (g : Nat) (hg : w.heap.size = g)
    (hx : a.eval x = .pointer (some ⟨g, 0, none⟩)) (hy : a.eval y = .agg (bv s).toArray) (h : wpList Tryz.prog ops Q rest (a.put op.dst undef) (w.alloc (.cells (bv s).toArray 31))) :
    wpList Tryz.prog ops Q (op :: rest) a (w.alloc (.cells (bv t).toArray 31)) := by
  subst hg
  refine wpList_g hw (wp_store_row 31 x y ho w.heap.size (bv s).toArray hx hy 31 (bv t).toArray (heap_alloc_new _ _) (by rw [List.size_toArray]; exact info_bv hs) (by rw [List.size_toArray, List.size_toArray, bv_len, bv_len, hs, ht]) (all_oneCell_toArray (bv_one _)) ?_)
  rw [World.setRow_alloc_new]
  exact h
theorem isRf_two {r : Rf} (hW : r.W) (h2 : r.k = 2) : isRf KD r = (decide (dE r.b = 0) && (decide (r.b.length < 32) && decide (r.h = z32))) := by
  have hk := KD_eq hW.2.2
  unfold isRf
  rw [if_neg (by omega), if_neg (by omega), if_pos h2, hk]
  unfold dE
  by_cases h32 : 32 ≤ r.b.length
  · rw [if_pos h32, decide_eq_false (show ¬ r.b.length < 32 by omega)]
    simp
  · rw [if_neg h32, decide_eq_true (show r.b.length < 32 by omega)]
    cases hd : decN KD r.b with
    | none => simp
    | some n =>
      have hm := ((decN_iff hW.2.2).1 hd).2.1
      have : n.k ≠ 0 := by
        intro e
        unfold mayN at hm
        rw [if_neg (by omega), if_neg (by omega), if_neg (by omega)] at hm
        cases hm
      simp [this]
set_option maxRecDepth 100000 in
set_option maxHeartbeats 3200000 in
theorem rref_any {w : World} {r : Rf} {v : Value} (hW : r.W) (hb : Vb w v r.b) (hD : r.k = 2 → DecR r.b) : Calls Tryz.prog 102 #[.agg (rcs r v).toArray] w fun e w' => e = .returned (.tuple #[.int .i64 (rkd r), .bool (isRf KD r)]) ∧ Below w.heap.size w w' := by
  have heq := fun w0 => eq_hash w0 r.h z32 hW.1 hW.2.1 z32_len z32_lt
  have hz24 := zv24
  have B2 : Below w.heap.size w ((w.alloc (.cells (rcs r v).toArray 107)).alloc (.cells (bv z32).toArray 31)) := (below_alloc _ _).alloc (by simp) _
  have hvn : Vb ((w.alloc (.cells (rcs r v).toArray 107)).alloc (.cells (bv z32).toArray 31)) v r.b := Rel.keep hb B2
  obtain ⟨c0, c1, c2⟩ := rng_ref hW.1 (rng_keep (rng_ref_new w r v 107) (below_alloc (w.alloc (.cells (rcs r v).toArray 107)) (.cells (bv z32).toArray 31)))
  have cz : ((w.alloc (.cells (rcs r v).toArray 107)).alloc (.cells (bv z32).toArray 31)).rangeAt (w.heap.size + 1) 0 (bv z32) := by
    have := rng_new (w.alloc (.cells (rcs r v).toArray 107)) (bv z32) 31
    rw [World.size_alloc] at this
    exact this
  rw [Nat.zero_add] at c1 c2
  obtain ⟨a, b, off, c, rfl, hv, hc, hnil, hl⟩ := hb
  obtain ⟨n, en⟩ : ∃ n, n = r.b.length := ⟨_, rfl⟩
  rw [← en] at hl hc c2 B2 hvn ⊢ c0 c1 cz
  have HN : Hid (n = r.b.length ∧ r.W) := ⟨en, hW⟩
  have HB : Hid (Below w.heap.size w ((w.alloc (.cells (rcs r (.slice a n c)).toArray 107)).alloc (.cells (bv z32).toArray 31))) := B2
  have hh := hW.1
  obtain ⟨b0, eb0⟩ : ∃ b0, b0 = decide (n = 0) := ⟨_, rfl⟩
  have j0 : (((n : Nat) : Int) == 0) = b0 := by rw [eb0]; by_cases q : n = 0 <;> simp [q]
  have HB0 : Hid (b0 = decide (n = 0)) := eb0
  have HI : Hid (isRf KD r = if r.k = 0 then decide (r.h = z32) && decide (r.b.length = 0) else if r.k = 1 then decide (r.b.length = 0) else if r.k = 2 then decide (r.h = z32) && decide (KD r.b ≠ 0) else false) := rfl
  have HQ : Hid (∀ w', w' = ((w.alloc (.cells (rcs r (.slice a n c)).toArray 107)).alloc (.cells (bv z32).toArray 31)).drew → w'.cell? ⟨w.heap.size, 0, none⟩ = some (.int .i64 r.k) ∧ w'.rangeAt w.heap.size 1 (bv r.h) ∧ w'.cell? ⟨w.heap.size, 33, none⟩ = some (.slice a n c) ∧ w'.rangeAt (w.heap.size + 1) 0 (bv z32)) := fun w' e => by subst e; exact ⟨c0, rng_same c1 rfl, c2, rng_same cz rfl⟩
  clear en hv hnil eb0
  by_cases k0 : r.k = 0
  · rw [k0] at c0
    have HK : Hid (r.k = 0) := k0
    clear hD hvn
    by_cases hz : r.h = z32
    · rw [decide_eq_true hz] at heq
      have HZ : Hid (r.h = z32) := hz
      clear hz k0 hW
      go_enter Tryz.func102, Tryz.ntmps102
      go_upto_region 4 with (first | refine wpList_bd24 (by kernel_rfl) (by rfl) ?_ | refine wpList_st24n (by kernel_rfl) _ _ (by rfl) z32 z32 z32_len z32_len (w.heap.size + 1) (by simp) (by rfl) (by rfl) ?_)
      refine wp_region_held_drew (S := fun w' => w' = ((w.alloc (.cells (rcs r (.slice a n c)).toArray 107)).alloc (.cells (bv z32).toArray 31)).drew) (by kernel_rfl) (rfl) ?_
      intro hS
      change wpAnyH _ _ _ _ _ 12 _ _ _
      refine wpAnyH_take (i := 0) (v := (.pointer (some ⟨w.heap.size, 1, none⟩))) (by simp only [List.getElem?_toArray, List.getElem?_cons_zero]; rfl) (by kernel_rfl) (by kernel_rfl) (by kernel_rfl) (by exact fun _ _ _ h => h) (y_f26a (by kernel_rfl) _ 1 rfl _ _ rfl (by omega)) hS ?_
      try simp only [Act.put, List.setIfInBounds_toArray, List.set_cons_zero, List.set_cons_succ]
      refine wpAnyH_take (i := 1) (v := (.agg (bv r.h).toArray)) (by simp only [List.getElem?_toArray, List.getElem?_cons_zero, List.getElem?_cons_succ]; rfl) (by kernel_rfl) (by kernel_rfl) (by kernel_rfl) (by exact fun _ _ _ h => h) (y_ld24 (by kernel_rfl) _ rfl _ _ rfl r.h hh (fun w' hs => (HQ.out w' hs).2.1)) hS ?_
      try simp only [Act.put, List.setIfInBounds_toArray, List.set_cons_zero, List.set_cons_succ]
      refine wpAnyH_take (i := 2) (v := (.agg (bv z32).toArray)) (by simp only [List.getElem?_toArray, List.getElem?_cons_zero, List.getElem?_cons_succ]; rfl) (by kernel_rfl) (by kernel_rfl) (by kernel_rfl) (by exact fun _ _ _ h => h) (y_ld24 (by kernel_rfl) _ rfl _ _ rfl z32 z32_len (fun w' hs => (HQ.out w' hs).2.2.2)) hS ?_
      try simp only [Act.put, List.setIfInBounds_toArray, List.set_cons_zero, List.set_cons_succ]
      refine wpAnyH_take (i := 3) (v := (.bool true)) (by simp only [List.getElem?_toArray, List.getElem?_cons_zero, List.getElem?_cons_succ]; rfl) (by kernel_rfl) (by kernel_rfl) (by kernel_rfl) (by exact fun _ _ _ h => h) (y_eqlHr (by kernel_rfl) _ _ rfl _ _ rfl rfl true heq) hS ?_
      try simp only [Act.put, List.setIfInBounds_toArray, List.set_cons_zero, List.set_cons_succ]
      refine wpAnyH_take (i := 4) (v := (.bool true)) (by simp only [List.getElem?_toArray, List.getElem?_cons_zero, List.getElem?_cons_succ]; rfl) (by kernel_rfl) (by kernel_rfl) (by kernel_rfl) (by exact fun _ _ _ h => h) (y_move (by kernel_rfl) _ rfl _ rfl) hS ?_
      try simp only [Act.put, List.setIfInBounds_toArray, List.set_cons_zero, List.set_cons_succ]
      refine wpAnyH_take (i := 5) (v := (.pointer (some ⟨w.heap.size, 33, none⟩))) (by simp only [List.getElem?_toArray, List.getElem?_cons_zero, List.getElem?_cons_succ]; rfl) (by kernel_rfl) (by kernel_rfl) (by kernel_rfl) (by exact fun _ _ _ h => h) (y_f26b (by kernel_rfl) _ rfl _ _ rfl) hS ?_
      try simp only [Act.put, List.setIfInBounds_toArray, List.set_cons_zero, List.set_cons_succ]
      refine wpAnyH_take (i := 6) (v := (.slice a n c)) (by simp only [List.getElem?_toArray, List.getElem?_cons_zero, List.getElem?_cons_succ]; rfl) (by kernel_rfl) (by kernel_rfl) (by kernel_rfl) (by exact fun _ _ _ h => h) (y_loadB (by kernel_rfl) _ rfl _ _ rfl _ (fun w' hs => (HQ.out w' hs).2.2.1)) hS ?_
      try simp only [Act.put, List.setIfInBounds_toArray, List.set_cons_zero, List.set_cons_succ]
      refine wpAnyH_take (i := 7) (v := (.int .i64 ((n : Nat) : Int))) (by simp only [List.getElem?_toArray, List.getElem?_cons_zero, List.getElem?_cons_succ]; rfl) (by kernel_rfl) (by kernel_rfl) (by kernel_rfl) (by exact fun _ _ _ h => h) (y_len22 (by kernel_rfl) _ rfl _ _ _ rfl) hS ?_
      try simp only [Act.put, List.setIfInBounds_toArray, List.set_cons_zero, List.set_cons_succ]
      refine wpAnyH_take (i := 8) (v := (.bool b0)) (by simp only [List.getElem?_toArray, List.getElem?_cons_zero, List.getElem?_cons_succ]; rfl) (by kernel_rfl) (by kernel_rfl) (by kernel_rfl) (by exact fun _ _ _ h => h) (y_eqlIr (by kernel_rfl) _ _ rfl _ _ rfl rfl b0 j0) hS ?_
      try simp only [Act.put, List.setIfInBounds_toArray, List.set_cons_zero, List.set_cons_succ]
      refine wpAnyH_take (i := 9) (v := (.bool b0)) (by simp only [List.getElem?_toArray, List.getElem?_cons_zero, List.getElem?_cons_succ]; rfl) (by kernel_rfl) (by kernel_rfl) (by kernel_rfl) (by exact fun _ _ _ h => h) (y_pick_t (by kernel_rfl) _ _ _ rfl _ rfl rfl) hS ?_
      try simp only [Act.put, List.setIfInBounds_toArray, List.set_cons_zero, List.set_cons_succ]
      refine wpAnyH_take (i := 10) (v := (.int .i64 0)) (by simp only [List.getElem?_toArray, List.getElem?_cons_zero, List.getElem?_cons_succ]; rfl) (by kernel_rfl) (by kernel_rfl) (by kernel_rfl) (by exact fun _ _ _ h => h) (y_assign (by kernel_rfl) _ rfl _ rfl) hS ?_
      try simp only [Act.put, List.setIfInBounds_toArray, List.set_cons_zero, List.set_cons_succ]
      refine wpAnyH_take (i := 11) (v := (.bool b0)) (by simp only [List.getElem?_toArray, List.getElem?_cons_zero, List.getElem?_cons_succ]; rfl) (by kernel_rfl) (by kernel_rfl) (by kernel_rfl) (by exact fun _ _ _ h => h) (y_assign (by kernel_rfl) _ rfl _ rfl) hS ?_
      try simp only [Act.put, List.setIfInBounds_toArray, List.set_cons_zero, List.set_cons_succ]
      refine wpAnyH_done (by kernel_rfl) ?_ _
      clear hS
      go_wp2_with fail
      go_ret2
      rw [HI.out, if_pos HK.out, decide_eq_true HZ.out, ← HN.out.1, ← HB0.out, show rkd r = 0 from if_neg (by rw [HK.out]; decide)]
      exact ⟨rfl, Below.drew HB.out⟩
    · rw [decide_eq_false hz] at heq
      have HZ : Hid (decide (r.h = z32) = false) := decide_eq_false hz
      clear hz k0 hW
      go_enter Tryz.func102, Tryz.ntmps102
      go_upto_region 4 with (first | refine wpList_bd24 (by kernel_rfl) (by rfl) ?_ | refine wpList_st24n (by kernel_rfl) _ _ (by rfl) z32 z32 z32_len z32_len (w.heap.size + 1) (by simp) (by rfl) (by rfl) ?_)
      refine wp_region_held_drew (S := fun w' => w' = ((w.alloc (.cells (rcs r (.slice a n c)).toArray 107)).alloc (.cells (bv z32).toArray 31)).drew) (by kernel_rfl) (rfl) ?_
      intro hS
      change wpAnyH _ _ _ _ _ 12 _ _ _
      refine wpAnyH_take (i := 0) (v := (.pointer (some ⟨w.heap.size, 1, none⟩))) (by simp only [List.getElem?_toArray, List.getElem?_cons_zero]; rfl) (by kernel_rfl) (by kernel_rfl) (by kernel_rfl) (by exact fun _ _ _ h => h) (y_f26a (by kernel_rfl) _ 1 rfl _ _ rfl (by omega)) hS ?_
      try simp only [Act.put, List.setIfInBounds_toArray, List.set_cons_zero, List.set_cons_succ]
      refine wpAnyH_take (i := 1) (v := (.agg (bv r.h).toArray)) (by simp only [List.getElem?_toArray, List.getElem?_cons_zero, List.getElem?_cons_succ]; rfl) (by kernel_rfl) (by kernel_rfl) (by kernel_rfl) (by exact fun _ _ _ h => h) (y_ld24 (by kernel_rfl) _ rfl _ _ rfl r.h hh (fun w' hs => (HQ.out w' hs).2.1)) hS ?_
      try simp only [Act.put, List.setIfInBounds_toArray, List.set_cons_zero, List.set_cons_succ]
      refine wpAnyH_take (i := 2) (v := (.agg (bv z32).toArray)) (by simp only [List.getElem?_toArray, List.getElem?_cons_zero, List.getElem?_cons_succ]; rfl) (by kernel_rfl) (by kernel_rfl) (by kernel_rfl) (by exact fun _ _ _ h => h) (y_ld24 (by kernel_rfl) _ rfl _ _ rfl z32 z32_len (fun w' hs => (HQ.out w' hs).2.2.2)) hS ?_
      try simp only [Act.put, List.setIfInBounds_toArray, List.set_cons_zero, List.set_cons_succ]
      refine wpAnyH_take (i := 3) (v := (.bool false)) (by simp only [List.getElem?_toArray, List.getElem?_cons_zero, List.getElem?_cons_succ]; rfl) (by kernel_rfl) (by kernel_rfl) (by kernel_rfl) (by exact fun _ _ _ h => h) (y_eqlHr (by kernel_rfl) _ _ rfl _ _ rfl rfl false heq) hS ?_
      try simp only [Act.put, List.setIfInBounds_toArray, List.set_cons_zero, List.set_cons_succ]
      refine wpAnyH_take (i := 4) (v := (.bool false)) (by simp only [List.getElem?_toArray, List.getElem?_cons_zero, List.getElem?_cons_succ]; rfl) (by kernel_rfl) (by kernel_rfl) (by kernel_rfl) (by exact fun _ _ _ h => h) (y_move (by kernel_rfl) _ rfl _ rfl) hS ?_
      try simp only [Act.put, List.setIfInBounds_toArray, List.set_cons_zero, List.set_cons_succ]
      refine wpAnyH_take (i := 5) (v := undef) (by simp only [List.getElem?_toArray, List.getElem?_cons_zero, List.getElem?_cons_succ]; rfl) (by kernel_rfl) (by kernel_rfl) (by kernel_rfl) (by exact fun _ _ _ h => h) (y_no (by kernel_rfl)) hS ?_
      try simp only [Act.put, List.setIfInBounds_toArray, List.set_cons_zero, List.set_cons_succ]
      refine wpAnyH_take (i := 6) (v := undef) (by simp only [List.getElem?_toArray, List.getElem?_cons_zero, List.getElem?_cons_succ]; rfl) (by kernel_rfl) (by kernel_rfl) (by kernel_rfl) (by exact fun _ _ _ h => h) (y_no (by kernel_rfl)) hS ?_
      try simp only [Act.put, List.setIfInBounds_toArray, List.set_cons_zero, List.set_cons_succ]
      refine wpAnyH_take (i := 7) (v := undef) (by simp only [List.getElem?_toArray, List.getElem?_cons_zero, List.getElem?_cons_succ]; rfl) (by kernel_rfl) (by kernel_rfl) (by kernel_rfl) (by exact fun _ _ _ h => h) (y_no (by kernel_rfl)) hS ?_
      try simp only [Act.put, List.setIfInBounds_toArray, List.set_cons_zero, List.set_cons_succ]
      refine wpAnyH_take (i := 8) (v := undef) (by simp only [List.getElem?_toArray, List.getElem?_cons_zero, List.getElem?_cons_succ]; rfl) (by kernel_rfl) (by kernel_rfl) (by kernel_rfl) (by exact fun _ _ _ h => h) (y_no (by kernel_rfl)) hS ?_
      try simp only [Act.put, List.setIfInBounds_toArray, List.set_cons_zero, List.set_cons_succ]
      refine wpAnyH_take (i := 9) (v := (.bool false)) (by simp only [List.getElem?_toArray, List.getElem?_cons_zero, List.getElem?_cons_succ]; rfl) (by kernel_rfl) (by kernel_rfl) (by kernel_rfl) (by exact fun _ _ _ h => h) (y_pick_f (by kernel_rfl) _ _ _ rfl _ rfl rfl) hS ?_
      try simp only [Act.put, List.setIfInBounds_toArray, List.set_cons_zero, List.set_cons_succ]
      refine wpAnyH_take (i := 10) (v := (.int .i64 0)) (by simp only [List.getElem?_toArray, List.getElem?_cons_zero, List.getElem?_cons_succ]; rfl) (by kernel_rfl) (by kernel_rfl) (by kernel_rfl) (by exact fun _ _ _ h => h) (y_assign (by kernel_rfl) _ rfl _ rfl) hS ?_
      try simp only [Act.put, List.setIfInBounds_toArray, List.set_cons_zero, List.set_cons_succ]
      refine wpAnyH_take (i := 11) (v := (.bool false)) (by simp only [List.getElem?_toArray, List.getElem?_cons_zero, List.getElem?_cons_succ]; rfl) (by kernel_rfl) (by kernel_rfl) (by kernel_rfl) (by exact fun _ _ _ h => h) (y_assign (by kernel_rfl) _ rfl _ rfl) hS ?_
      try simp only [Act.put, List.setIfInBounds_toArray, List.set_cons_zero, List.set_cons_succ]
      refine wpAnyH_done (by kernel_rfl) ?_ _
      clear hS
      go_wp2_with fail
      go_ret2
      rw [HI.out, if_pos HK.out, HZ.out, show rkd r = 0 from if_neg (by rw [HK.out]; decide)]
      exact ⟨rfl, Below.drew HB.out⟩
  · have i0 : (r.k == 0) = false := by simpa using k0
    by_cases k1 : r.k = 1
    · rw [k1] at c0
      have HK : Hid (r.k = 1) := k1
      clear hD hvn k0 k1 i0 hW
      go_enter Tryz.func102, Tryz.ntmps102
      go_upto_region 6 with (first | refine wpList_bd24 (by kernel_rfl) (by rfl) ?_ | refine wpList_st24n (by kernel_rfl) _ _ (by rfl) z32 z32 z32_len z32_len (w.heap.size + 1) (by simp) (by rfl) (by rfl) ?_)
      refine wp_region_held_drew (S := fun w' => w' = ((w.alloc (.cells (rcs r (.slice a n c)).toArray 107)).alloc (.cells (bv z32).toArray 31)).drew) (by kernel_rfl) (rfl) ?_
      intro hS
      change wpAnyH _ _ _ _ _ 6 _ _ _
      refine wpAnyH_take (i := 0) (v := (.pointer (some ⟨w.heap.size, 33, none⟩))) (by simp only [List.getElem?_toArray, List.getElem?_cons_zero]; rfl) (by kernel_rfl) (by kernel_rfl) (by kernel_rfl) (by exact fun _ _ _ h => h) (y_f26b (by kernel_rfl) _ rfl _ _ rfl) hS ?_
      try simp only [Act.put, List.setIfInBounds_toArray, List.set_cons_zero, List.set_cons_succ]
      refine wpAnyH_take (i := 1) (v := (.slice a n c)) (by simp only [List.getElem?_toArray, List.getElem?_cons_zero, List.getElem?_cons_succ]; rfl) (by kernel_rfl) (by kernel_rfl) (by kernel_rfl) (by exact fun _ _ _ h => h) (y_loadB (by kernel_rfl) _ rfl _ _ rfl _ (fun w' hs => (HQ.out w' hs).2.2.1)) hS ?_
      try simp only [Act.put, List.setIfInBounds_toArray, List.set_cons_zero, List.set_cons_succ]
      refine wpAnyH_take (i := 2) (v := (.int .i64 ((n : Nat) : Int))) (by simp only [List.getElem?_toArray, List.getElem?_cons_zero, List.getElem?_cons_succ]; rfl) (by kernel_rfl) (by kernel_rfl) (by kernel_rfl) (by exact fun _ _ _ h => h) (y_len22 (by kernel_rfl) _ rfl _ _ _ rfl) hS ?_
      try simp only [Act.put, List.setIfInBounds_toArray, List.set_cons_zero, List.set_cons_succ]
      refine wpAnyH_take (i := 3) (v := (.bool b0)) (by simp only [List.getElem?_toArray, List.getElem?_cons_zero, List.getElem?_cons_succ]; rfl) (by kernel_rfl) (by kernel_rfl) (by kernel_rfl) (by exact fun _ _ _ h => h) (y_eqlIr (by kernel_rfl) _ _ rfl _ _ rfl rfl b0 j0) hS ?_
      try simp only [Act.put, List.setIfInBounds_toArray, List.set_cons_zero, List.set_cons_succ]
      refine wpAnyH_take (i := 4) (v := (.int .i64 0)) (by simp only [List.getElem?_toArray, List.getElem?_cons_zero, List.getElem?_cons_succ]; rfl) (by kernel_rfl) (by kernel_rfl) (by kernel_rfl) (by exact fun _ _ _ h => h) (y_assign (by kernel_rfl) _ rfl _ rfl) hS ?_
      try simp only [Act.put, List.setIfInBounds_toArray, List.set_cons_zero, List.set_cons_succ]
      refine wpAnyH_take (i := 5) (v := (.bool b0)) (by simp only [List.getElem?_toArray, List.getElem?_cons_zero, List.getElem?_cons_succ]; rfl) (by kernel_rfl) (by kernel_rfl) (by kernel_rfl) (by exact fun _ _ _ h => h) (y_assign (by kernel_rfl) _ rfl _ rfl) hS ?_
      try simp only [Act.put, List.setIfInBounds_toArray, List.set_cons_zero, List.set_cons_succ]
      refine wpAnyH_done (by kernel_rfl) ?_ _
      clear hS
      go_wp2_with fail
      go_ret2
      rw [HI.out, if_neg (by rw [HK.out]; decide), if_pos HK.out, ← HN.out.1, ← HB0.out, show rkd r = 0 from if_neg (by rw [HK.out]; decide)]
      exact ⟨rfl, Below.drew HB.out⟩
    · have i1 : (r.k == 1) = false := by simpa using k1
      by_cases k2 : r.k = 2
      · have K := hD k2 _ _ hvn
        have HI2 := isRf_two hW k2
        rw [k2] at c0
        have HK : Hid (r.k = 2) := k2
        have hrk : rkd r = (dN r.b).k := if_pos k2
        have mW : ∀ w' u, Nin w' (dN r.b) u → (dN r.b).W := fun _ _ h => h.W
        unfold DcPst at K
        obtain ⟨m, em⟩ : ∃ m, m = dN r.b := ⟨_, rfl⟩
        obtain ⟨d, ed⟩ : ∃ d, d = dE r.b := ⟨_, rfl⟩
        obtain ⟨hs, ehs⟩ : ∃ hs, hs = decide (r.h = z32) := ⟨_, rfl⟩
        rw [← ehs] at heq HI2
        rw [← em, ← ed] at K
        rw [← em] at hrk mW
        rw [← ed, ← HN.out.1] at HI2
        have HI3 : Hid (isRf KD r = (decide (d = 0) && (decide (n < 32) && hs)) ∧ rkd r = m.k) := ⟨HI2, hrk⟩
        have HBX : Hid (∀ w5 (u : Nv), m.W → Below ((w.alloc (.cells (rcs r (.slice a n c)).toArray 107)).alloc (.cells (bv z32).toArray 31)).heap.size ((w.alloc (.cells (rcs r (.slice a n c)).toArray 107)).alloc (.cells (bv z32).toArray 31)) w5 → Below w.heap.size w (w5.alloc (.cells (nc m u).toArray 110)) ∧ ∀ w', w' = (w5.alloc (.cells (nc m u).toArray 110)).drew → (w'.cell? ⟨w.heap.size, 0, none⟩ = some (.int .i64 r.k) ∧ w'.rangeAt w.heap.size 1 (bv r.h) ∧ w'.cell? ⟨w.heap.size, 33, none⟩ = some (.slice a n c) ∧ w'.rangeAt (w.heap.size + 1) 0 (bv z32)) ∧ w'.cell? ⟨w5.heap.size, 0, none⟩ = some (.int .i64 m.k)) := fun w5 u hm b5 => by
          have b6 := ch b5 (below_alloc w5 (.cells (nc m u).toArray 110))
          obtain ⟨q0, q1, q2, q3⟩ := HQ.out _ rfl
          refine ⟨ch HB.out b6, fun w' e => ?_⟩
          subst e
          refine ⟨⟨?_, rng_same (rng_keep (w := ((w.alloc (.cells (rcs r (.slice a n c)).toArray 107)).alloc (.cells (bv z32).toArray 31))) (rng_same q1 rfl) b6) rfl, ?_, rng_same (rng_keep (w := ((w.alloc (.cells (rcs r (.slice a n c)).toArray 107)).alloc (.cells (bv z32).toArray 31))) (rng_same q3 rfl) b6) rfl⟩, (nb_new hm w5 u).k⟩
          · exact (b6.cell (p := ⟨w.heap.size, 0, none⟩) (by simp; omega)).trans q0
          · exact (b6.cell (p := ⟨w.heap.size, 33, none⟩) (by simp; omega)).trans q2
        clear hD hvn k0 k1 k2 i0 hW em ed ehs HI2 hrk hc
        obtain ⟨uu, euu⟩ : ∃ z, z = uz := ⟨_, rfl⟩
        obtain ⟨zz, ezz⟩ : ∃ z, z = nz := ⟨_, rfl⟩
        have hz := zv29
        rw [← ezz, ← euu] at hz
        have zW : zz.W := by rw [ezz]; exact nz_w
        clear ezz euu
        by_cases d0 : d = 0
        · by_cases n32 : n < 32
          · have q1 : (((d : Nat) : Int) == 0) = true := by simp; omega
            have q2 : decide (((n : Nat) : Int) < 32) = true := decide_eq_true (by omega)
            have HD : Hid (decide (d = 0) = true ∧ decide (n < 32) = true) := ⟨decide_eq_true d0, decide_eq_true n32⟩
            clear d0 n32
            go_enter Tryz.func102, Tryz.ntmps102
            go_upto_region 9 with (first | refine wpList_bd24 (by kernel_rfl) (by rfl) ?_ | refine wpList_st24n (by kernel_rfl) _ _ (by rfl) z32 z32 z32_len z32_len (w.heap.size + 1) (by simp) (by rfl) (by rfl) ?_ | (go_at_call 71; go_loud (refine K.mono ?_; rintro e w5 ⟨u5, rfl, hI, b5⟩; have hm := hI.W; have on := hI.one; obtain ⟨B6, Q6⟩ := HBX.out w5 u5 hm b5; have HB6 : Hid (Below w.heap.size w (w5.alloc (.cells (nc m u5).toArray 110))) := B6; have HQ6 : Hid (∀ w', w' = (w5.alloc (.cells (nc m u5).toArray 110)).drew → (w'.cell? ⟨w.heap.size, 0, none⟩ = some (.int .i64 r.k) ∧ w'.rangeAt w.heap.size 1 (bv r.h) ∧ w'.cell? ⟨w.heap.size, 33, none⟩ = some (.slice a n c) ∧ w'.rangeAt (w.heap.size + 1) 0 (bv z32)) ∧ w'.cell? ⟨w5.heap.size, 0, none⟩ = some (.int .i64 m.k)) := Q6; clear hI b5 B6 Q6 K)) | refine wpList_st29 (by kernel_rfl) _ _ (by rfl) m zz u5 uu hm zW on (by rfl) (by rfl) ?_)
            refine wp_region_held_drew (S := fun w' => w' = (w5.alloc (.cells (nc m u5).toArray 110)).drew) (by kernel_rfl) (rfl) ?_
            intro hS
            change wpAnyH _ _ _ _ _ 18 _ _ _
            refine wpAnyH_take (i := 0) (v := (.pointer (some ⟨w5.heap.size, 0, none⟩))) (by simp only [List.getElem?_toArray, List.getElem?_cons_zero]; rfl) (by kernel_rfl) (by kernel_rfl) (by kernel_rfl) (by exact fun _ _ _ h => h) (y_f29f (by kernel_rfl) _ 0 rfl _ rfl (by omega)) hS ?_
            try simp only [Act.put, List.setIfInBounds_toArray, List.set_cons_zero, List.set_cons_succ]
            refine wpAnyH_take (i := 1) (v := (.int .i64 m.k)) (by simp only [List.getElem?_toArray, List.getElem?_cons_zero, List.getElem?_cons_succ]; rfl) (by kernel_rfl) (by kernel_rfl) (by kernel_rfl) (by exact fun _ _ _ h => h) (y_load3 (by kernel_rfl) _ rfl _ _ rfl _ (fun w' hs => (HQ6.out w' hs).2)) hS ?_
            try simp only [Act.put, List.setIfInBounds_toArray, List.set_cons_zero, List.set_cons_succ]
            refine wpAnyH_take (i := 2) (v := (.int .i64 ((d : Nat) : Int))) (by simp only [List.getElem?_toArray, List.getElem?_cons_zero, List.getElem?_cons_succ]; rfl) (by kernel_rfl) (by kernel_rfl) (by kernel_rfl) (by exact fun _ _ _ h => h) (y_move (by kernel_rfl) _ rfl _ rfl) hS ?_
            try simp only [Act.put, List.setIfInBounds_toArray, List.set_cons_zero, List.set_cons_succ]
            refine wpAnyH_take (i := 3) (v := (.bool true)) (by simp only [List.getElem?_toArray, List.getElem?_cons_zero, List.getElem?_cons_succ]; rfl) (by kernel_rfl) (by kernel_rfl) (by kernel_rfl) (by exact fun _ _ _ h => h) (y_eqlIr (by kernel_rfl) _ _ rfl _ _ rfl rfl true q1) hS ?_
            try simp only [Act.put, List.setIfInBounds_toArray, List.set_cons_zero, List.set_cons_succ]
            refine wpAnyH_take (i := 4) (v := (.bool true)) (by simp only [List.getElem?_toArray, List.getElem?_cons_zero, List.getElem?_cons_succ]; rfl) (by kernel_rfl) (by kernel_rfl) (by kernel_rfl) (by exact fun _ _ _ h => h) (y_move (by kernel_rfl) _ rfl _ rfl) hS ?_
            try simp only [Act.put, List.setIfInBounds_toArray, List.set_cons_zero, List.set_cons_succ]
            refine wpAnyH_take (i := 5) (v := (.pointer (some ⟨w.heap.size, 33, none⟩))) (by simp only [List.getElem?_toArray, List.getElem?_cons_zero, List.getElem?_cons_succ]; rfl) (by kernel_rfl) (by kernel_rfl) (by kernel_rfl) (by exact fun _ _ _ h => h) (y_f26b (by kernel_rfl) _ rfl _ _ rfl) hS ?_
            try simp only [Act.put, List.setIfInBounds_toArray, List.set_cons_zero, List.set_cons_succ]
            refine wpAnyH_take (i := 6) (v := (.slice a n c)) (by simp only [List.getElem?_toArray, List.getElem?_cons_zero, List.getElem?_cons_succ]; rfl) (by kernel_rfl) (by kernel_rfl) (by kernel_rfl) (by exact fun _ _ _ h => h) (y_loadB (by kernel_rfl) _ rfl _ _ rfl _ (fun w' hs => (HQ6.out w' hs).1.2.2.1)) hS ?_
            try simp only [Act.put, List.setIfInBounds_toArray, List.set_cons_zero, List.set_cons_succ]
            refine wpAnyH_take (i := 7) (v := (.int .i64 ((n : Nat) : Int))) (by simp only [List.getElem?_toArray, List.getElem?_cons_zero, List.getElem?_cons_succ]; rfl) (by kernel_rfl) (by kernel_rfl) (by kernel_rfl) (by exact fun _ _ _ h => h) (y_len22 (by kernel_rfl) _ rfl _ _ _ rfl) hS ?_
            try simp only [Act.put, List.setIfInBounds_toArray, List.set_cons_zero, List.set_cons_succ]
            refine wpAnyH_take (i := 8) (v := (.bool true)) (by simp only [List.getElem?_toArray, List.getElem?_cons_zero, List.getElem?_cons_succ]; rfl) (by kernel_rfl) (by kernel_rfl) (by kernel_rfl) (by exact fun _ _ _ h => h) (y_lssIr (by kernel_rfl) _ _ rfl _ _ rfl rfl true q2) hS ?_
            try simp only [Act.put, List.setIfInBounds_toArray, List.set_cons_zero, List.set_cons_succ]
            refine wpAnyH_take (i := 9) (v := (.bool true)) (by simp only [List.getElem?_toArray, List.getElem?_cons_zero, List.getElem?_cons_succ]; rfl) (by kernel_rfl) (by kernel_rfl) (by kernel_rfl) (by exact fun _ _ _ h => h) (y_pick_t (by kernel_rfl) _ _ _ rfl _ rfl rfl) hS ?_
            try simp only [Act.put, List.setIfInBounds_toArray, List.set_cons_zero, List.set_cons_succ]
            refine wpAnyH_take (i := 10) (v := (.bool true)) (by simp only [List.getElem?_toArray, List.getElem?_cons_zero, List.getElem?_cons_succ]; rfl) (by kernel_rfl) (by kernel_rfl) (by kernel_rfl) (by exact fun _ _ _ h => h) (y_move (by kernel_rfl) _ rfl _ rfl) hS ?_
            try simp only [Act.put, List.setIfInBounds_toArray, List.set_cons_zero, List.set_cons_succ]
            refine wpAnyH_take (i := 11) (v := (.pointer (some ⟨w.heap.size, 1, none⟩))) (by simp only [List.getElem?_toArray, List.getElem?_cons_zero, List.getElem?_cons_succ]; rfl) (by kernel_rfl) (by kernel_rfl) (by kernel_rfl) (by exact fun _ _ _ h => h) (y_f26a (by kernel_rfl) _ 1 rfl _ _ rfl (by omega)) hS ?_
            try simp only [Act.put, List.setIfInBounds_toArray, List.set_cons_zero, List.set_cons_succ]
            refine wpAnyH_take (i := 12) (v := (.agg (bv r.h).toArray)) (by simp only [List.getElem?_toArray, List.getElem?_cons_zero, List.getElem?_cons_succ]; rfl) (by kernel_rfl) (by kernel_rfl) (by kernel_rfl) (by exact fun _ _ _ h => h) (y_ld24 (by kernel_rfl) _ rfl _ _ rfl r.h hh (fun w' hs => (HQ6.out w' hs).1.2.1)) hS ?_
            try simp only [Act.put, List.setIfInBounds_toArray, List.set_cons_zero, List.set_cons_succ]
            refine wpAnyH_take (i := 13) (v := (.agg (bv z32).toArray)) (by simp only [List.getElem?_toArray, List.getElem?_cons_zero, List.getElem?_cons_succ]; rfl) (by kernel_rfl) (by kernel_rfl) (by kernel_rfl) (by exact fun _ _ _ h => h) (y_ld24 (by kernel_rfl) _ rfl _ _ rfl z32 z32_len (fun w' hs => (HQ6.out w' hs).1.2.2.2)) hS ?_
            try simp only [Act.put, List.setIfInBounds_toArray, List.set_cons_zero, List.set_cons_succ]
            refine wpAnyH_take (i := 14) (v := (.bool hs)) (by simp only [List.getElem?_toArray, List.getElem?_cons_zero, List.getElem?_cons_succ]; rfl) (by kernel_rfl) (by kernel_rfl) (by kernel_rfl) (by exact fun _ _ _ h => h) (y_eqlHr (by kernel_rfl) _ _ rfl _ _ rfl rfl hs heq) hS ?_
            try simp only [Act.put, List.setIfInBounds_toArray, List.set_cons_zero, List.set_cons_succ]
            refine wpAnyH_take (i := 15) (v := (.bool hs)) (by simp only [List.getElem?_toArray, List.getElem?_cons_zero, List.getElem?_cons_succ]; rfl) (by kernel_rfl) (by kernel_rfl) (by kernel_rfl) (by exact fun _ _ _ h => h) (y_pick_t (by kernel_rfl) _ _ _ rfl _ rfl rfl) hS ?_
            try simp only [Act.put, List.setIfInBounds_toArray, List.set_cons_zero, List.set_cons_succ]
            refine wpAnyH_take (i := 16) (v := (.int .i64 m.k)) (by simp only [List.getElem?_toArray, List.getElem?_cons_zero, List.getElem?_cons_succ]; rfl) (by kernel_rfl) (by kernel_rfl) (by kernel_rfl) (by exact fun _ _ _ h => h) (y_assign (by kernel_rfl) _ rfl _ rfl) hS ?_
            try simp only [Act.put, List.setIfInBounds_toArray, List.set_cons_zero, List.set_cons_succ]
            refine wpAnyH_take (i := 17) (v := (.bool hs)) (by simp only [List.getElem?_toArray, List.getElem?_cons_zero, List.getElem?_cons_succ]; rfl) (by kernel_rfl) (by kernel_rfl) (by kernel_rfl) (by exact fun _ _ _ h => h) (y_assign (by kernel_rfl) _ rfl _ rfl) hS ?_
            try simp only [Act.put, List.setIfInBounds_toArray, List.set_cons_zero, List.set_cons_succ]
            refine wpAnyH_done (by kernel_rfl) ?_ _
            clear hS
            go_wp2_with fail
            go_ret2
            rw [HI3.out.1, HI3.out.2, HD.out.1, HD.out.2]
            exact ⟨rfl, Below.drew HB6.out⟩
          · have q1 : (((d : Nat) : Int) == 0) = true := by simp; omega
            have q2 : decide (((n : Nat) : Int) < 32) = false := decide_eq_false (by omega)
            have HD : Hid (decide (d = 0) = true ∧ decide (n < 32) = false) := ⟨decide_eq_true d0, decide_eq_false n32⟩
            clear d0 n32
            go_enter Tryz.func102, Tryz.ntmps102
            go_upto_region 9 with (first | refine wpList_bd24 (by kernel_rfl) (by rfl) ?_ | refine wpList_st24n (by kernel_rfl) _ _ (by rfl) z32 z32 z32_len z32_len (w.heap.size + 1) (by simp) (by rfl) (by rfl) ?_ | (go_at_call 71; go_loud (refine K.mono ?_; rintro e w5 ⟨u5, rfl, hI, b5⟩; have hm := hI.W; have on := hI.one; obtain ⟨B6, Q6⟩ := HBX.out w5 u5 hm b5; have HB6 : Hid (Below w.heap.size w (w5.alloc (.cells (nc m u5).toArray 110))) := B6; have HQ6 : Hid (∀ w', w' = (w5.alloc (.cells (nc m u5).toArray 110)).drew → (w'.cell? ⟨w.heap.size, 0, none⟩ = some (.int .i64 r.k) ∧ w'.rangeAt w.heap.size 1 (bv r.h) ∧ w'.cell? ⟨w.heap.size, 33, none⟩ = some (.slice a n c) ∧ w'.rangeAt (w.heap.size + 1) 0 (bv z32)) ∧ w'.cell? ⟨w5.heap.size, 0, none⟩ = some (.int .i64 m.k)) := Q6; clear hI b5 B6 Q6 K)) | refine wpList_st29 (by kernel_rfl) _ _ (by rfl) m zz u5 uu hm zW on (by rfl) (by rfl) ?_)
            refine wp_region_held_drew (S := fun w' => w' = (w5.alloc (.cells (nc m u5).toArray 110)).drew) (by kernel_rfl) (rfl) ?_
            intro hS
            change wpAnyH _ _ _ _ _ 18 _ _ _
            refine wpAnyH_take (i := 0) (v := (.pointer (some ⟨w5.heap.size, 0, none⟩))) (by simp only [List.getElem?_toArray, List.getElem?_cons_zero]; rfl) (by kernel_rfl) (by kernel_rfl) (by kernel_rfl) (by exact fun _ _ _ h => h) (y_f29f (by kernel_rfl) _ 0 rfl _ rfl (by omega)) hS ?_
            try simp only [Act.put, List.setIfInBounds_toArray, List.set_cons_zero, List.set_cons_succ]
            refine wpAnyH_take (i := 1) (v := (.int .i64 m.k)) (by simp only [List.getElem?_toArray, List.getElem?_cons_zero, List.getElem?_cons_succ]; rfl) (by kernel_rfl) (by kernel_rfl) (by kernel_rfl) (by exact fun _ _ _ h => h) (y_load3 (by kernel_rfl) _ rfl _ _ rfl _ (fun w' hs => (HQ6.out w' hs).2)) hS ?_
            try simp only [Act.put, List.setIfInBounds_toArray, List.set_cons_zero, List.set_cons_succ]
            refine wpAnyH_take (i := 2) (v := (.int .i64 ((d : Nat) : Int))) (by simp only [List.getElem?_toArray, List.getElem?_cons_zero, List.getElem?_cons_succ]; rfl) (by kernel_rfl) (by kernel_rfl) (by kernel_rfl) (by exact fun _ _ _ h => h) (y_move (by kernel_rfl) _ rfl _ rfl) hS ?_
            try simp only [Act.put, List.setIfInBounds_toArray, List.set_cons_zero, List.set_cons_succ]
            refine wpAnyH_take (i := 3) (v := (.bool true)) (by simp only [List.getElem?_toArray, List.getElem?_cons_zero, List.getElem?_cons_succ]; rfl) (by kernel_rfl) (by kernel_rfl) (by kernel_rfl) (by exact fun _ _ _ h => h) (y_eqlIr (by kernel_rfl) _ _ rfl _ _ rfl rfl true q1) hS ?_
            try simp only [Act.put, List.setIfInBounds_toArray, List.set_cons_zero, List.set_cons_succ]
            refine wpAnyH_take (i := 4) (v := (.bool true)) (by simp only [List.getElem?_toArray, List.getElem?_cons_zero, List.getElem?_cons_succ]; rfl) (by kernel_rfl) (by kernel_rfl) (by kernel_rfl) (by exact fun _ _ _ h => h) (y_move (by kernel_rfl) _ rfl _ rfl) hS ?_
            try simp only [Act.put, List.setIfInBounds_toArray, List.set_cons_zero, List.set_cons_succ]
            refine wpAnyH_take (i := 5) (v := (.pointer (some ⟨w.heap.size, 33, none⟩))) (by simp only [List.getElem?_toArray, List.getElem?_cons_zero, List.getElem?_cons_succ]; rfl) (by kernel_rfl) (by kernel_rfl) (by kernel_rfl) (by exact fun _ _ _ h => h) (y_f26b (by kernel_rfl) _ rfl _ _ rfl) hS ?_
            try simp only [Act.put, List.setIfInBounds_toArray, List.set_cons_zero, List.set_cons_succ]
            refine wpAnyH_take (i := 6) (v := (.slice a n c)) (by simp only [List.getElem?_toArray, List.getElem?_cons_zero, List.getElem?_cons_succ]; rfl) (by kernel_rfl) (by kernel_rfl) (by kernel_rfl) (by exact fun _ _ _ h => h) (y_loadB (by kernel_rfl) _ rfl _ _ rfl _ (fun w' hs => (HQ6.out w' hs).1.2.2.1)) hS ?_
            try simp only [Act.put, List.setIfInBounds_toArray, List.set_cons_zero, List.set_cons_succ]
            refine wpAnyH_take (i := 7) (v := (.int .i64 ((n : Nat) : Int))) (by simp only [List.getElem?_toArray, List.getElem?_cons_zero, List.getElem?_cons_succ]; rfl) (by kernel_rfl) (by kernel_rfl) (by kernel_rfl) (by exact fun _ _ _ h => h) (y_len22 (by kernel_rfl) _ rfl _ _ _ rfl) hS ?_
            try simp only [Act.put, List.setIfInBounds_toArray, List.set_cons_zero, List.set_cons_succ]
            refine wpAnyH_take (i := 8) (v := (.bool false)) (by simp only [List.getElem?_toArray, List.getElem?_cons_zero, List.getElem?_cons_succ]; rfl) (by kernel_rfl) (by kernel_rfl) (by kernel_rfl) (by exact fun _ _ _ h => h) (y_lssIr (by kernel_rfl) _ _ rfl _ _ rfl rfl false q2) hS ?_
            try simp only [Act.put, List.setIfInBounds_toArray, List.set_cons_zero, List.set_cons_succ]
            refine wpAnyH_take (i := 9) (v := (.bool false)) (by simp only [List.getElem?_toArray, List.getElem?_cons_zero, List.getElem?_cons_succ]; rfl) (by kernel_rfl) (by kernel_rfl) (by kernel_rfl) (by exact fun _ _ _ h => h) (y_pick_t (by kernel_rfl) _ _ _ rfl _ rfl rfl) hS ?_
            try simp only [Act.put, List.setIfInBounds_toArray, List.set_cons_zero, List.set_cons_succ]
            refine wpAnyH_take (i := 10) (v := (.bool false)) (by simp only [List.getElem?_toArray, List.getElem?_cons_zero, List.getElem?_cons_succ]; rfl) (by kernel_rfl) (by kernel_rfl) (by kernel_rfl) (by exact fun _ _ _ h => h) (y_move (by kernel_rfl) _ rfl _ rfl) hS ?_
            try simp only [Act.put, List.setIfInBounds_toArray, List.set_cons_zero, List.set_cons_succ]
            refine wpAnyH_take (i := 11) (v := undef) (by simp only [List.getElem?_toArray, List.getElem?_cons_zero, List.getElem?_cons_succ]; rfl) (by kernel_rfl) (by kernel_rfl) (by kernel_rfl) (by exact fun _ _ _ h => h) (y_no (by kernel_rfl)) hS ?_
            try simp only [Act.put, List.setIfInBounds_toArray, List.set_cons_zero, List.set_cons_succ]
            refine wpAnyH_take (i := 12) (v := undef) (by simp only [List.getElem?_toArray, List.getElem?_cons_zero, List.getElem?_cons_succ]; rfl) (by kernel_rfl) (by kernel_rfl) (by kernel_rfl) (by exact fun _ _ _ h => h) (y_no (by kernel_rfl)) hS ?_
            try simp only [Act.put, List.setIfInBounds_toArray, List.set_cons_zero, List.set_cons_succ]
            refine wpAnyH_take (i := 13) (v := undef) (by simp only [List.getElem?_toArray, List.getElem?_cons_zero, List.getElem?_cons_succ]; rfl) (by kernel_rfl) (by kernel_rfl) (by kernel_rfl) (by exact fun _ _ _ h => h) (y_no (by kernel_rfl)) hS ?_
            try simp only [Act.put, List.setIfInBounds_toArray, List.set_cons_zero, List.set_cons_succ]
            refine wpAnyH_take (i := 14) (v := undef) (by simp only [List.getElem?_toArray, List.getElem?_cons_zero, List.getElem?_cons_succ]; rfl) (by kernel_rfl) (by kernel_rfl) (by kernel_rfl) (by exact fun _ _ _ h => h) (y_no (by kernel_rfl)) hS ?_
            try simp only [Act.put, List.setIfInBounds_toArray, List.set_cons_zero, List.set_cons_succ]
            refine wpAnyH_take (i := 15) (v := (.bool false)) (by simp only [List.getElem?_toArray, List.getElem?_cons_zero, List.getElem?_cons_succ]; rfl) (by kernel_rfl) (by kernel_rfl) (by kernel_rfl) (by exact fun _ _ _ h => h) (y_pick_f (by kernel_rfl) _ _ _ rfl _ rfl rfl) hS ?_
            try simp only [Act.put, List.setIfInBounds_toArray, List.set_cons_zero, List.set_cons_succ]
            refine wpAnyH_take (i := 16) (v := (.int .i64 m.k)) (by simp only [List.getElem?_toArray, List.getElem?_cons_zero, List.getElem?_cons_succ]; rfl) (by kernel_rfl) (by kernel_rfl) (by kernel_rfl) (by exact fun _ _ _ h => h) (y_assign (by kernel_rfl) _ rfl _ rfl) hS ?_
            try simp only [Act.put, List.setIfInBounds_toArray, List.set_cons_zero, List.set_cons_succ]
            refine wpAnyH_take (i := 17) (v := (.bool false)) (by simp only [List.getElem?_toArray, List.getElem?_cons_zero, List.getElem?_cons_succ]; rfl) (by kernel_rfl) (by kernel_rfl) (by kernel_rfl) (by exact fun _ _ _ h => h) (y_assign (by kernel_rfl) _ rfl _ rfl) hS ?_
            try simp only [Act.put, List.setIfInBounds_toArray, List.set_cons_zero, List.set_cons_succ]
            refine wpAnyH_done (by kernel_rfl) ?_ _
            clear hS
            go_wp2_with fail
            go_ret2
            rw [HI3.out.1, HI3.out.2, HD.out.1, HD.out.2]
            exact ⟨rfl, Below.drew HB6.out⟩
        · have q1 : (((d : Nat) : Int) == 0) = false := by simp; omega
          have HD : Hid (decide (d = 0) = false) := decide_eq_false d0
          clear d0
          go_enter Tryz.func102, Tryz.ntmps102
          go_upto_region 9 with (first | refine wpList_bd24 (by kernel_rfl) (by rfl) ?_ | refine wpList_st24n (by kernel_rfl) _ _ (by rfl) z32 z32 z32_len z32_len (w.heap.size + 1) (by simp) (by rfl) (by rfl) ?_ | (go_at_call 71; go_loud (refine K.mono ?_; rintro e w5 ⟨u5, rfl, hI, b5⟩; have hm := hI.W; have on := hI.one; obtain ⟨B6, Q6⟩ := HBX.out w5 u5 hm b5; have HB6 : Hid (Below w.heap.size w (w5.alloc (.cells (nc m u5).toArray 110))) := B6; have HQ6 : Hid (∀ w', w' = (w5.alloc (.cells (nc m u5).toArray 110)).drew → (w'.cell? ⟨w.heap.size, 0, none⟩ = some (.int .i64 r.k) ∧ w'.rangeAt w.heap.size 1 (bv r.h) ∧ w'.cell? ⟨w.heap.size, 33, none⟩ = some (.slice a n c) ∧ w'.rangeAt (w.heap.size + 1) 0 (bv z32)) ∧ w'.cell? ⟨w5.heap.size, 0, none⟩ = some (.int .i64 m.k)) := Q6; clear hI b5 B6 Q6 K)) | refine wpList_st29 (by kernel_rfl) _ _ (by rfl) m zz u5 uu hm zW on (by rfl) (by rfl) ?_)
          refine wp_region_held_drew (S := fun w' => w' = (w5.alloc (.cells (nc m u5).toArray 110)).drew) (by kernel_rfl) (rfl) ?_
          intro hS
          change wpAnyH _ _ _ _ _ 18 _ _ _
          refine wpAnyH_take (i := 0) (v := (.pointer (some ⟨w5.heap.size, 0, none⟩))) (by simp only [List.getElem?_toArray, List.getElem?_cons_zero]; rfl) (by kernel_rfl) (by kernel_rfl) (by kernel_rfl) (by exact fun _ _ _ h => h) (y_f29f (by kernel_rfl) _ 0 rfl _ rfl (by omega)) hS ?_
          try simp only [Act.put, List.setIfInBounds_toArray, List.set_cons_zero, List.set_cons_succ]
          refine wpAnyH_take (i := 1) (v := (.int .i64 m.k)) (by simp only [List.getElem?_toArray, List.getElem?_cons_zero, List.getElem?_cons_succ]; rfl) (by kernel_rfl) (by kernel_rfl) (by kernel_rfl) (by exact fun _ _ _ h => h) (y_load3 (by kernel_rfl) _ rfl _ _ rfl _ (fun w' hs => (HQ6.out w' hs).2)) hS ?_
          try simp only [Act.put, List.setIfInBounds_toArray, List.set_cons_zero, List.set_cons_succ]
          refine wpAnyH_take (i := 2) (v := (.int .i64 ((d : Nat) : Int))) (by simp only [List.getElem?_toArray, List.getElem?_cons_zero, List.getElem?_cons_succ]; rfl) (by kernel_rfl) (by kernel_rfl) (by kernel_rfl) (by exact fun _ _ _ h => h) (y_move (by kernel_rfl) _ rfl _ rfl) hS ?_
          try simp only [Act.put, List.setIfInBounds_toArray, List.set_cons_zero, List.set_cons_succ]
          refine wpAnyH_take (i := 3) (v := (.bool false)) (by simp only [List.getElem?_toArray, List.getElem?_cons_zero, List.getElem?_cons_succ]; rfl) (by kernel_rfl) (by kernel_rfl) (by kernel_rfl) (by exact fun _ _ _ h => h) (y_eqlIr (by kernel_rfl) _ _ rfl _ _ rfl rfl false q1) hS ?_
          try simp only [Act.put, List.setIfInBounds_toArray, List.set_cons_zero, List.set_cons_succ]
          refine wpAnyH_take (i := 4) (v := (.bool false)) (by simp only [List.getElem?_toArray, List.getElem?_cons_zero, List.getElem?_cons_succ]; rfl) (by kernel_rfl) (by kernel_rfl) (by kernel_rfl) (by exact fun _ _ _ h => h) (y_move (by kernel_rfl) _ rfl _ rfl) hS ?_
          try simp only [Act.put, List.setIfInBounds_toArray, List.set_cons_zero, List.set_cons_succ]
          refine wpAnyH_take (i := 5) (v := undef) (by simp only [List.getElem?_toArray, List.getElem?_cons_zero, List.getElem?_cons_succ]; rfl) (by kernel_rfl) (by kernel_rfl) (by kernel_rfl) (by exact fun _ _ _ h => h) (y_no (by kernel_rfl)) hS ?_
          try simp only [Act.put, List.setIfInBounds_toArray, List.set_cons_zero, List.set_cons_succ]
          refine wpAnyH_take (i := 6) (v := undef) (by simp only [List.getElem?_toArray, List.getElem?_cons_zero, List.getElem?_cons_succ]; rfl) (by kernel_rfl) (by kernel_rfl) (by kernel_rfl) (by exact fun _ _ _ h => h) (y_no (by kernel_rfl)) hS ?_
          try simp only [Act.put, List.setIfInBounds_toArray, List.set_cons_zero, List.set_cons_succ]
          refine wpAnyH_take (i := 7) (v := undef) (by simp only [List.getElem?_toArray, List.getElem?_cons_zero, List.getElem?_cons_succ]; rfl) (by kernel_rfl) (by kernel_rfl) (by kernel_rfl) (by exact fun _ _ _ h => h) (y_no (by kernel_rfl)) hS ?_
          try simp only [Act.put, List.setIfInBounds_toArray, List.set_cons_zero, List.set_cons_succ]
          refine wpAnyH_take (i := 8) (v := undef) (by simp only [List.getElem?_toArray, List.getElem?_cons_zero, List.getElem?_cons_succ]; rfl) (by kernel_rfl) (by kernel_rfl) (by kernel_rfl) (by exact fun _ _ _ h => h) (y_no (by kernel_rfl)) hS ?_
          try simp only [Act.put, List.setIfInBounds_toArray, List.set_cons_zero, List.set_cons_succ]
          refine wpAnyH_take (i := 9) (v := (.bool false)) (by simp only [List.getElem?_toArray, List.getElem?_cons_zero, List.getElem?_cons_succ]; rfl) (by kernel_rfl) (by kernel_rfl) (by kernel_rfl) (by exact fun _ _ _ h => h) (y_pick_f (by kernel_rfl) _ _ _ rfl _ rfl rfl) hS ?_
          try simp only [Act.put, List.setIfInBounds_toArray, List.set_cons_zero, List.set_cons_succ]
          refine wpAnyH_take (i := 10) (v := (.bool false)) (by simp only [List.getElem?_toArray, List.getElem?_cons_zero, List.getElem?_cons_succ]; rfl) (by kernel_rfl) (by kernel_rfl) (by kernel_rfl) (by exact fun _ _ _ h => h) (y_move (by kernel_rfl) _ rfl _ rfl) hS ?_
          try simp only [Act.put, List.setIfInBounds_toArray, List.set_cons_zero, List.set_cons_succ]
          refine wpAnyH_take (i := 11) (v := undef) (by simp only [List.getElem?_toArray, List.getElem?_cons_zero, List.getElem?_cons_succ]; rfl) (by kernel_rfl) (by kernel_rfl) (by kernel_rfl) (by exact fun _ _ _ h => h) (y_no (by kernel_rfl)) hS ?_
          try simp only [Act.put, List.setIfInBounds_toArray, List.set_cons_zero, List.set_cons_succ]
          refine wpAnyH_take (i := 12) (v := undef) (by simp only [List.getElem?_toArray, List.getElem?_cons_zero, List.getElem?_cons_succ]; rfl) (by kernel_rfl) (by kernel_rfl) (by kernel_rfl) (by exact fun _ _ _ h => h) (y_no (by kernel_rfl)) hS ?_
          try simp only [Act.put, List.setIfInBounds_toArray, List.set_cons_zero, List.set_cons_succ]
          refine wpAnyH_take (i := 13) (v := undef) (by simp only [List.getElem?_toArray, List.getElem?_cons_zero, List.getElem?_cons_succ]; rfl) (by kernel_rfl) (by kernel_rfl) (by kernel_rfl) (by exact fun _ _ _ h => h) (y_no (by kernel_rfl)) hS ?_
          try simp only [Act.put, List.setIfInBounds_toArray, List.set_cons_zero, List.set_cons_succ]
          refine wpAnyH_take (i := 14) (v := undef) (by simp only [List.getElem?_toArray, List.getElem?_cons_zero, List.getElem?_cons_succ]; rfl) (by kernel_rfl) (by kernel_rfl) (by kernel_rfl) (by exact fun _ _ _ h => h) (y_no (by kernel_rfl)) hS ?_
          try simp only [Act.put, List.setIfInBounds_toArray, List.set_cons_zero, List.set_cons_succ]
          refine wpAnyH_take (i := 15) (v := (.bool false)) (by simp only [List.getElem?_toArray, List.getElem?_cons_zero, List.getElem?_cons_succ]; rfl) (by kernel_rfl) (by kernel_rfl) (by kernel_rfl) (by exact fun _ _ _ h => h) (y_pick_f (by kernel_rfl) _ _ _ rfl _ rfl rfl) hS ?_
          try simp only [Act.put, List.setIfInBounds_toArray, List.set_cons_zero, List.set_cons_succ]
          refine wpAnyH_take (i := 16) (v := (.int .i64 m.k)) (by simp only [List.getElem?_toArray, List.getElem?_cons_zero, List.getElem?_cons_succ]; rfl) (by kernel_rfl) (by kernel_rfl) (by kernel_rfl) (by exact fun _ _ _ h => h) (y_assign (by kernel_rfl) _ rfl _ rfl) hS ?_
          try simp only [Act.put, List.setIfInBounds_toArray, List.set_cons_zero, List.set_cons_succ]
          refine wpAnyH_take (i := 17) (v := (.bool false)) (by simp only [List.getElem?_toArray, List.getElem?_cons_zero, List.getElem?_cons_succ]; rfl) (by kernel_rfl) (by kernel_rfl) (by kernel_rfl) (by exact fun _ _ _ h => h) (y_assign (by kernel_rfl) _ rfl _ rfl) hS ?_
          try simp only [Act.put, List.setIfInBounds_toArray, List.set_cons_zero, List.set_cons_succ]
          refine wpAnyH_done (by kernel_rfl) ?_ _
          clear hS
          go_wp2_with fail
          go_ret2
          rw [HI3.out.1, HI3.out.2, HD.out]
          exact ⟨rfl, Below.drew HB6.out⟩
      · have i2 : (r.k == 2) = false := by simpa using k2
        have HK : Hid (isRf KD r = false ∧ rkd r = 0) := ⟨by rw [HI.out, if_neg k0, if_neg k1, if_neg k2], if_neg k2⟩
        clear hD hvn k0 k1 k2 hW
        go_enter Tryz.func102, Tryz.ntmps102
        go_wp2_with (first | refine wpList_bd24 (by kernel_rfl) (by rfl) ?_ | refine wpList_st24n (by kernel_rfl) _ _ (by rfl) z32 z32 z32_len z32_len (w.heap.size + 1) (by simp) (by rfl) (by rfl) ?_)
        go_ret2
        rw [HK.out.1, HK.out.2]
        exact ⟨rfl, HB.out⟩
end Go.Proofs.YtepeolbbplodfaaGreatDoor
