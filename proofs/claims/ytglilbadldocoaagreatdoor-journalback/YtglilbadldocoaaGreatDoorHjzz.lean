import Derived.Test.YtglilbadldocoaaGreatDoorHizz
import Derived.Test.YtglilbadldocoaaGreatDoorChecked
import Derived.WalkKit
import Derived.OwnWalk
import Derived.Deep.RegionLaw
import Derived.Laws.CopyRow
import Derived.Lib.SliceRun
import Derived.Shelf.Spec.SlicesInsert
import Derived.Lib.AppendZerosOnto
namespace Go.Proofs.YtglilbadldocoaaGreatDoor
open Go Go.Ev Go.RowKit
theorem run_copy_lay {P : Program} (w : World) (dT sT ty elem : TypeId) (g o dLen dCap : Nat) (a : Addr) (sLen sCap : Nat) (cur : Array Value) (t : TypeId) (fr : Nat × Nat) (cs : List Value) {gg : Nat}
  (hu : P.underlying dT = some (.slice elem)) (hs : (P.info? elem).map (·.size) = some 1) (hg : w.heap[g]? = some (.cells cur t fr)) (hth : Thaw gg fr cur.size) (hn : cs.length = Nat.min sLen dLen)
  (hsrc : ∀ j v, cs[j]? = some v → w.cell? (a.add j) = some v) (hfit : o + cs.length ≤ cur.size) (h1 : ∀ v ∈ cs, one v = true) (h0 : cs ≠ []) :
  (Builtin.copy_ #[dT, sT] ty #[.slice (some ⟨g, o, none⟩) dLen dCap, .slice (some a) sLen sCap]).run P w = .ok (goInt cs.length) (Ev.World.row w g (.cells (lay cur o cs) t fr)) := by
 have hl := run_loadCells_list (P := P) w a cs hsrc
 have hst := run_storeCells_lay P g t fr o (gg := gg) cs 0 cur w hg (by simpa using hfit) hth h1
 have hst' : (storeCells ⟨g, o, none⟩ cs 0).run P w = .ok () (Ev.World.row w g (.cells (lay cur o cs) t fr)) := by
  rw [hst]
  cases cs with
  | nil => exact absurd rfl h0
  | cons => rfl
 cases hq : P.info? elem with
 | none => simp [hq] at hs
 | some i =>
  have hi : i.size = 1 := by simpa [hq] using hs
  simp [Builtin.copy_, run_underlying hu, Builtin.lenOf, Builtin.firstCells, sizeOf, typeInfo, hq, hi, ← hn, hl, hst']
theorem infoB : (Tryz.prog.info? 28).map (fun i => (i.zero, i.size, i.bytes)) = some (some (.slice none 0 0), 1, 24) := by kernel_rfl
theorem sizeB1 : (Tryz.prog.info? 28).map (·.size) = some 1 := by kernel_rfl
theorem elemB : Tryz.prog.elem 79 = 28 := by kernel_rfl
theorem sizeB (w : World) : (sizeOf 28).run Tryz.prog w = .ok 1 w := by
 have := sizeB1
 cases hq : Tryz.prog.info? 28 with
 | none => simp [hq] at this
 | some i => simp [hq] at this; simp [sizeOf, typeInfo, hq, this]
theorem sliceB_upto (g O n c K : Nat) (h : K ≤ c) (w : World) : (Instr.slice 79 (.slice (some ⟨g, O, none⟩) n c) none (some (.int .i64 K)) none).run Tryz.prog w = .ok (.slice (some ⟨g, O, none⟩) K c) w := by
 rw [run_slice_h w 79 _ n c (by rw [elemB]; exact Tryz.underlying79) .i64 K (by omega) (by omega), elemB, sizeB]
 simp only [Result.andThen, sliced]
 congr 1
 simp [add_eq]
theorem sliceBAt_upto (g O n c K : Nat) (h : K ≤ c) (w : World) : (Instr.sliceAt 79 (.slice (some ⟨g, O, none⟩) n c) none (some (.int .i64 K)) none).run Tryz.prog w = .ok (.slice (some ⟨g, O, none⟩) K c) w := by
 rw [run_sliceAt_slice w 79 _ _ _ _ (by rw [elemB]; exact Tryz.underlying79), sliceB_upto g O n c K h w]
theorem sliceB_in (g O n c K : Nat) (h : K ≤ n) (hc : K < c) (w : World) : (Instr.slice 79 (.slice (some ⟨g, O, none⟩) n c) (some (.int .i64 K)) none none).run Tryz.prog w = .ok (.slice (some ⟨g, O + K, none⟩) (n - K) (c - K)) w := by
 rw [run_slice_l w 79 _ n c (by rw [elemB]; exact Tryz.underlying79) .i64 K (by omega) (by omega), elemB, sizeB]
 simp only [Result.andThen, sliced]
 rw [if_neg (by omega)]
 simp [add_eq]
theorem sliceBAt_in (g O n c K : Nat) (h : K ≤ n) (hc : K < c) (w : World) : (Instr.sliceAt 79 (.slice (some ⟨g, O, none⟩) n c) (some (.int .i64 K)) none none).run Tryz.prog w = .ok (.slice (some ⟨g, O + K, none⟩) (n - K) (c - K)) w := by
 rw [run_sliceAt_slice w 79 _ _ _ _ (by rw [elemB]; exact Tryz.underlying79), sliceB_in g O n c K h hc w]
structure Insd (w : World) (g O n i : Nat) (xs : List Value) (u : Value) (N : Nat) (e : Ending) (w' : World) : Prop where
 ex : ∃ A Q c' c t fr, e = .returned (.slice (some ⟨A, Q, none⟩) (n + 1) c') ∧ w'.heap[A]? = some (.cells c t fr) ∧ Thaw 1 fr c.size ∧ Q + c' ≤ c.size ∧ n + 1 ≤ c' ∧ (∀ j x, (xs.take i ++ u :: xs.drop i)[j]? = some x → c[Q + j]? = some x) ∧ ((A = g ∧ Q = O ∧ c.size = N) ∨ (A = w.heap.size ∧ Q = 0))
 kp : ∀ B, B < w.heap.size → B ≠ g → w'.heap[B]? = w.heap[B]?
 sz : w.heap.size ≤ w'.heap.size
 os : w'.os = w.os
 tp : w'.tape = w.tape
 out : w'.output = w.output
theorem ins_list {cur : Array Value} {xs : List Value} {u : Value} {O i n : Nat} (hx : ∀ j x, xs[j]? = some x → cur[O + j]? = some x) (hxl : xs.length = n) (hi : i < n) (hf : O + (n + 1) ≤ cur.size) :
  ∀ j x, (xs.take i ++ u :: xs.drop i)[j]? = some x → (lay (lay cur (O + (i + 1)) (xs.drop i)) (O + i) [u])[O + j]? = some x := by
 intro j x hj
 have l1 : (xs.drop i).length = n - i := by rw [List.length_drop, hxl]
 have l2 : (xs.take i).length = i := by rw [List.length_take]; omega
 rw [lay_get _ _ _ _ (by rw [lay_size]; simp; omega), lay_get _ _ _ _ (by omega)]
 rw [List.getElem?_append, l2] at hj
 split at hj
 ·rename_i h1
  rw [if_neg (by simp; omega), if_neg (by omega)]
  rw [List.getElem?_take, if_pos h1] at hj
  exact hx j x hj
 ·rename_i h1
  by_cases h2 : j = i
  ·subst h2
   rw [if_pos (by simp)]
   rw [Nat.sub_self] at hj ⊢
   exact hj
  ·rw [if_neg (by simp; omega)]
   obtain ⟨m, rfl⟩ : ∃ m, j = i + (m + 1) := ⟨j - i - 1, by omega⟩
   rw [show i + (m + 1) - i = m + 1 by omega, List.getElem?_cons_succ] at hj
   have hm : m < (xs.drop i).length := by
    rcases Nat.lt_or_ge m (xs.drop i).length with h | h
    ·exact h
    ·rw [List.getElem?_eq_none h] at hj; cases hj
   rw [if_pos (by omega), show O + (i + (m + 1)) - (O + (i + 1)) = m by omega]
   exact hj
theorem frozen_no {w : World} {b : Nat} {c : Array Value} {t : TypeId} {fr : Nat × Nat} (h : w.heap[b]? = some (.cells c t fr)) (hf : fr.1 = fr.2) (o : Nat) : w.frozen? ⟨b, o, none⟩ = false := by
 simp only [World.frozen?, h]
 rw [hf]
 cases hq : decide (fr.2 ≤ o) with
 | false => rfl
 | true =>
  have := of_decide_eq_true hq
  rw [Bool.true_and]
  exact decide_eq_false (by omega)
set_option maxRecDepth 100000 in
set_option maxHeartbeats 4000000 in
theorem ins_room (w : World) (g O n i c : Nat) (cur : Array Value) (ct : TypeId) (fr : Nat × Nat) {gg : Nat} (xs : List Value) (u : Value) (vb vo vc : Nat) (uc : Array Value) (ut : TypeId) (ufr : Nat × Nat) (hg : w.heap[g]? = some (.cells cur ct fr)) (hth : Thaw gg fr cur.size)
  (hx : ∀ j x, xs[j]? = some x → cur[O + j]? = some x) (hxl : xs.length = n) (hfit : O + c ≤ cur.size) (hi : i < n) (hroom : n + 1 ≤ c) (h1 : ∀ x ∈ xs, one x = true) (hu1 : one u = true) (hvb : w.heap[vb]? = some (.cells uc ut ufr)) (huc : uc[vo]? = some u) (huf : ufr.1 = ufr.2) (hne : vb ≠ g) (hbig : n ≤ 1099511627776) :
  Calls Tryz.prog 61 #[.slice (some ⟨g, O, none⟩) n c, .int .i64 i, .slice (some ⟨vb, vo, none⟩) 1 vc] w fun e w' => Insd w g O n i xs u cur.size e w' := by
 have hdl : (xs.drop i).length = n - i := by rw [List.length_drop, hxl]
 have hgl : g < w.heap.size := (Array.getElem?_eq_some_iff.1 hg).1
 have rh : ∀ o B, (Ev.World.row w.drew g o).heap[B]? = if B = g then some o else w.heap[B]? := fun o B => row_heap w.drew g o B hgl
 have hov1 : ∀ lb cb, (callFunc 96 #[.slice (some ⟨vb, vo, none⟩) 1 vc, .slice (some ⟨g, O + (i + 1), none⟩) lb cb]).run Tryz.prog w = .ok (.value (.bool false)) w := fun lb cb => by
  rw [run_callFunc_extern Tryz.func96 (by kernel_rfl) (by kernel_rfl) (by kernel_rfl) (e := Extern.SlicesOverlaps.overlaps #[79, 79] #[4]) (by kernel_rfl),
   Lib.run_overlaps_apart w 79 4 28 Tryz.underlying79 1 sizeB ⟨vb, vo, none⟩ ⟨g, O + (i + 1), none⟩ 1 vc lb cb hne ut ct uc.size cur.size (by simp [World.shape?, hvb]) (by simp [World.shape?, hg]) (by omega) (frozen_no hvb huf _) (frozen_no hvb huf _)]
  rfl
 obtain ⟨C1, hC1⟩ : ∃ C1, C1 = lay cur (O + (i + 1)) (xs.drop i) := ⟨_, rfl⟩
 have hC1s : C1.size = cur.size := by rw [hC1, lay_size]
 have hcp1 : ∀ ty, (Builtin.copy_ #[79, 79] ty #[.slice (some ⟨g, O + (i + 1), none⟩) (n - i) (c - (i + 1)), .slice (some ⟨g, O + i, none⟩) (n + 1 - i) (c - i)]).run Tryz.prog w.drew = .ok (goInt (xs.drop i).length) (Ev.World.row w.drew g (.cells C1 ct fr)) := fun ty => by
  rw [hC1]
  refine run_copy_lay (P := Tryz.prog) w.drew _ _ ty 28 g (O + (i + 1)) (n - i) (c - (i + 1)) ⟨g, O + i, none⟩ (n + 1 - i) (c - i) cur ct fr (xs.drop i) Tryz.underlying79 sizeB1 hg hth (by rw [hdl]; simp only [Nat.min_def]; split <;> omega) (fun j x hj => ?_) (by rw [hdl]; omega) (fun x hx => h1 x (List.mem_of_mem_drop hx)) (fun e => by rw [e] at hdl; simp at hdl; omega)
  rw [add_eq]
  have e : (w.drew).cell? ⟨g, O + i + j, none⟩ = cur[O + i + j]? := cell_of_row w g (O + i + j) cur _ _ hg
  rw [e, Nat.add_assoc]
  rw [List.getElem?_drop] at hj
  exact hx _ x hj
 obtain ⟨W1, hW1⟩ : ∃ W1, W1 = Ev.World.row w.drew g (.cells C1 ct fr) := ⟨_, rfl⟩
 have hg1 : W1.heap[g]? = some (.cells C1 ct fr) := by rw [hW1, rh, if_pos rfl]
 have hvb1 : W1.heap[vb]? = some (.cells uc ut ufr) := by rw [hW1, rh, if_neg hne]; exact hvb
 obtain ⟨C2, hC2⟩ : ∃ C2, C2 = lay C1 (O + i) [u] := ⟨_, rfl⟩
 have hcp2 : ∀ ty, (Builtin.copy_ #[79, 79] ty #[.slice (some ⟨g, O + i, none⟩) (n + 1 - i) (c - i), .slice (some ⟨vb, vo, none⟩) 1 vc]).run Tryz.prog W1 = .ok (goInt [u].length) (Ev.World.row W1 g (.cells C2 ct fr)) := fun ty => by
  rw [hC2]
  refine run_copy_lay (P := Tryz.prog) W1 79 79 ty 28 g (O + i) (n + 1 - i) (c - i) ⟨vb, vo, none⟩ 1 vc C1 ct fr [u] Tryz.underlying79 sizeB1 hg1 (by rw [hC1s]; exact hth) (by simp only [Nat.min_def, List.length_singleton]; split <;> omega) (fun j x hj => ?_) (by rw [hC1s, List.length_singleton]; omega) (by simpa using hu1) (by simp)
  match j, hj with
  | 0, hj =>
   cases hj
   rw [add_eq, cell_of_row W1 vb (vo + 0) _ ut _ hvb1]
   exact huc
 have hfin := ins_list (u := u) hx hxl hi (show O + (n + 1) ≤ cur.size by omega)
 rw [← hC1, ← hC2] at hfin
 have hgl1 : g < W1.heap.size := by rw [hW1]; simp [Ev.World.row]; exact hgl
 have HF : Hid (Insd w g O n i xs u cur.size (.returned (.slice (some ⟨g, O, none⟩) (n + 1) c)) (Ev.World.row W1 g (.cells C2 ct fr))) := by
  refine ⟨⟨g, O, c, C2, ct, fr, rfl, by rw [row_heap _ _ _ _ hgl1, if_pos rfl], by rw [hC2, lay_size, hC1s]; exact hth.up (by decide), by rw [hC2, lay_size, hC1s]; exact hfit, hroom, hfin, .inl ⟨rfl, rfl, by rw [hC2, lay_size, hC1s]⟩⟩, fun B hB hn => ?_, ?_, ?_, ?_, ?_⟩
  ·rw [row_heap _ _ _ _ hgl1, if_neg hn, hW1, rh, if_neg hn]
  ·rw [hW1]; simp [Ev.World.row]
  ·rw [hW1]; rfl
  ·rw [hW1]; rfl
  ·rw [hW1]; rfl
 rw [← hW1] at hcp1
 have s1 : ∀ w, (Instr.slice 79 (.slice (some ⟨g, O, none⟩) n c) (some (.int .i64 i)) none none).run Tryz.prog w = .ok (.slice (some ⟨g, O + i, none⟩) (n - i) (c - i)) w := sliceB_in g O n c i (by omega) (by omega)
 have s1' : ∀ w, (Instr.sliceAt 79 (.slice (some ⟨g, O, none⟩) n c) (some (.int .i64 i)) none none).run Tryz.prog w = .ok (.slice (some ⟨g, O + i, none⟩) (n - i) (c - i)) w := sliceBAt_in g O n c i (by omega) (by omega)
 have s2 : ∀ w, (Instr.slice 79 (.slice (some ⟨g, O, none⟩) n c) none (some (.int .i64 ((n : Int) + 1))) none).run Tryz.prog w = .ok (.slice (some ⟨g, O, none⟩) (n + 1) c) w := fun w => by have := sliceB_upto g O n c (n + 1) hroom w; rwa [show (((n + 1 : Nat)) : Int) = (n : Int) + 1 by omega] at this
 have s2' : ∀ w, (Instr.sliceAt 79 (.slice (some ⟨g, O, none⟩) n c) none (some (.int .i64 ((n : Int) + 1))) none).run Tryz.prog w = .ok (.slice (some ⟨g, O, none⟩) (n + 1) c) w := fun w => by have := sliceBAt_upto g O n c (n + 1) hroom w; rwa [show (((n + 1 : Nat)) : Int) = (n : Int) + 1 by omega] at this
 have s3 : ∀ w, (Instr.slice 79 (.slice (some ⟨g, O, none⟩) (n + 1) c) (some (.int .i64 ((i : Int) + 1))) none none).run Tryz.prog w = .ok (.slice (some ⟨g, O + (i + 1), none⟩) (n - i) (c - (i + 1))) w := fun w => by have := sliceB_in g O (n + 1) c (i + 1) (by omega) (by omega) w; rwa [show (((i + 1 : Nat)) : Int) = (i : Int) + 1 by omega, show n + 1 - (i + 1) = n - i by omega] at this
 have s3' : ∀ w, (Instr.sliceAt 79 (.slice (some ⟨g, O, none⟩) (n + 1) c) (some (.int .i64 ((i : Int) + 1))) none none).run Tryz.prog w = .ok (.slice (some ⟨g, O + (i + 1), none⟩) (n - i) (c - (i + 1))) w := fun w => by have := sliceBAt_in g O (n + 1) c (i + 1) (by omega) (by omega) w; rwa [show (((i + 1 : Nat)) : Int) = (i : Int) + 1 by omega, show n + 1 - (i + 1) = n - i by omega] at this
 have s4 : ∀ w, (Instr.slice 79 (.slice (some ⟨g, O, none⟩) (n + 1) c) (some (.int .i64 i)) none none).run Tryz.prog w = .ok (.slice (some ⟨g, O + i, none⟩) (n + 1 - i) (c - i)) w := sliceB_in g O (n + 1) c i (by omega) (by omega)
 have s4' : ∀ w, (Instr.sliceAt 79 (.slice (some ⟨g, O, none⟩) (n + 1) c) (some (.int .i64 i)) none none).run Tryz.prog w = .ok (.slice (some ⟨g, O + i, none⟩) (n + 1 - i) (c - i)) w := sliceBAt_in g O (n + 1) c i (by omega) (by omega)
 have d1 : ¬ ((i : Int) = (n : Int)) := by omega
 have d2 : ¬ ((c : Int) < (n : Int) + 1) := by omega
 have d3 : ¬ (c ≤ n) := by omega
 have d4 : ¬ ((c : Int) ≤ (n : Int)) := by omega
 have hw1 : IntKind.i64.wrap ((i : Int) + 1) = (i : Int) + 1 := by rw [IntKind.wrap_i64]; omega
 generalize hOi : O + (i + 1) = Oi at *
 generalize hOj : O + i = Oj at *
 clear hfin hg1 hvb1 hg hvb hC1 hC1s h1 hxl hdl hW1 hx hth hgl hgl1 rh hC2 hfit huc hOi hOj huf hne hu1
 go_enter Tryz.func61, Tryz.ntmps61
 go_wp2_with fail
 go_region_law (refine step_copy_runI (by rfl) _ _ 79 79 (by rfl) _ _ (by simp [Act.eval, Act.put]) (by simp [Act.eval, Act.put]) (hcp1 _) ?_)
 go_wp2_with (at_builtin; refine wpList_copy_runI _ (by rfl) _ _ 79 79 (by rfl) _ _ (by rfl) (by rfl) (hcp2 _) ?_)
 go_ret
 exact HF.out
theorem ins_list2 {R : Array Value} {xs : List Value} {u : Value} {i n : Nat} (hR : ∀ (j : Nat) (x : Value), (xs.take i)[j]? = some x → R[j]? = some x) (hxl : xs.length = n) (hi : i < n) (hf : n + 1 ≤ R.size) :
  ∀ (j : Nat) (x : Value), (xs.take i ++ u :: xs.drop i)[j]? = some x → (lay (lay R i [u]) (i + 1) (xs.drop i))[j]? = some x := by
 intro j x hj
 have l1 : (xs.drop i).length = n - i := by rw [List.length_drop, hxl]
 have l2 : (xs.take i).length = i := by rw [List.length_take]; omega
 rw [lay_get _ _ _ _ (by rw [lay_size]; omega), lay_get _ _ _ _ (by simp; omega)]
 rw [List.getElem?_append, l2] at hj
 split at hj
 ·rename_i h1
  rw [if_neg (by omega), if_neg (by simp; omega)]
  exact hR j x hj
 ·rename_i h1
  by_cases h2 : j = i
  ·subst h2
   rw [if_neg (by omega), if_pos (by simp)]
   rw [Nat.sub_self] at hj ⊢
   exact hj
  ·obtain ⟨m, rfl⟩ : ∃ m, j = i + (m + 1) := ⟨j - i - 1, by omega⟩
   rw [show i + (m + 1) - i = m + 1 by omega, List.getElem?_cons_succ] at hj
   have hm : m < (xs.drop i).length := by
    rcases Nat.lt_or_ge m (xs.drop i).length with h | h
    ·exact h
    ·rw [List.getElem?_eq_none h] at hj; cases hj
   rw [if_pos (by omega), show i + (m + 1) - (i + 1) = m by omega]
   exact hj
set_option maxRecDepth 100000 in
set_option maxHeartbeats 4000000 in
theorem ins_grow (w : World) (g O n i c : Nat) (cur : Array Value) (ct : TypeId) (fr : Nat × Nat) (xs : List Value) (u : Value) (vb vo vc N : Nat) (uc : Array Value) (ut : TypeId) (ufr : Nat × Nat) (hg : w.heap[g]? = some (.cells cur ct fr))
  (hx : ∀ j x, xs[j]? = some x → cur[O + j]? = some x) (hxl : xs.length = n) (hi : i < n) (hnc : n ≤ c) (hroom : c < n + 1) (h1 : ∀ x ∈ xs, one x = true) (hu1 : one u = true) (hvb : w.heap[vb]? = some (.cells uc ut ufr)) (huc : uc[vo]? = some u) (hbig : n ≤ 1099511627776) :
  Calls Tryz.prog 61 #[.slice (some ⟨g, O, none⟩) n c, .int .i64 i, .slice (some ⟨vb, vo, none⟩) 1 vc] w fun e w' => Insd w g O n i xs u N e w' := by
 obtain ⟨i0, hi0, hz0, hz1, hz2⟩ := info_parts infoB
 have hdl : (xs.drop i).length = n - i := by rw [List.length_drop, hxl]
 have hgl : g < w.heap.size := (Array.getElem?_eq_some_iff.1 hg).1
 have hvl : vb < w.heap.size := (Array.getElem?_eq_some_iff.1 hvb).1
 have hcell : ∀ (j : Nat) (x : Value), xs[j]? = some x → w.cell? ⟨g, O + j, none⟩ = some x := fun j x hj => by
  rw [cell_of_row w g (O + j) cur _ _ hg]; exact hx j x hj
 have hold : (Builtin.firstCells i0.size i (.slice (some ⟨g, O, none⟩) i c)).run Tryz.prog w.drew = .ok (xs.take i).toArray w.drew := by
  rw [hz1]
  exact run_firstCells_some w.drew 1 i ⟨g, O, none⟩ i c (xs.take i) (by rw [List.length_take]; omega) (fun j x hj => by
   rw [add_eq]
   rw [List.getElem?_take] at hj
   split at hj
   ·exact hcell j x hj
   ·cases hj)
 obtain ⟨G, hG⟩ : ∃ G, G = grownCap w (n + 1) c 28 := ⟨_, rfl⟩
 obtain ⟨R, hR⟩ : ∃ R : Array Value, R = (xs.take i).toArray ++ Builtin.zeroCells (Value.slice none 0 0).cells (n + 1 - i) ++ Builtin.zeroCells (Value.slice none 0 0).cells (G - (n + 1)) := ⟨_, rfl⟩
 have hGn : n + 1 ≤ G := by rw [hG]; exact grownCap_ge w _ _ _
 have hRl : R.size = G := by
  rw [hR]
  simp [Builtin.zeroCells, Value.cells]
  omega
 have hRt : ∀ j x, (xs.take i)[j]? = some x → R[j]? = some x := fun j x hj => by
  have hlt : j < (xs.take i).length := by
   rcases Nat.lt_or_ge j (xs.take i).length with h | h
   ·exact h
   ·rw [List.getElem?_eq_none h] at hj; cases hj
  rw [hR, Array.append_assoc, Array.getElem?_append_left (by simpa using hlt)]
  simpa using hj
 obtain ⟨W1, hW1⟩ : ∃ W1, W1 = w.drew.alloc (.cells R 28) := ⟨_, rfl⟩
 have hrz : ∀ ty, (Builtin.append_ #[79, 3] ty #[.slice (some ⟨g, O, none⟩) i c, .int .i64 ((n : Int) + 1 - (i : Int))]).run Tryz.prog w = .ok (.slice (some ⟨w.heap.size, 0, none⟩) (n + 1) G) W1 := fun ty => by
  have h := Lib.run_append_grow_zeros (P := Tryz.prog) w 79 3 ty 28 i0 (.slice none 0 0) .i64 .i64 Tryz.underlying79 Tryz.underlying3 hi0 hz0 (some ⟨g, O, none⟩) i c (xs.take i) hold (n + 1 - i) (by omega) (by omega) (by omega) (by omega) (by rw [hz2]; omega) (by rw [hz2, show i + (n + 1 - i) = n + 1 by omega]; exact growslice_fits hroom (by omega))
  rw [show i + (n + 1 - i) = n + 1 by omega, ← hG] at h
  rw [show (n : Int) + 1 - (i : Int) = ((n + 1 - i : Nat) : Int) by omega, h, hW1, hR]
 have hN1 : W1.heap[w.heap.size]? = some (.cells R 28 (0, 0)) := by rw [hW1]; exact heap_alloc_new w.drew _
 have hold1 : ∀ k, k < w.heap.size → W1.heap[k]? = w.heap[k]? := fun k hk => by rw [hW1]; exact heap_alloc_old w.drew _ hk
 have hs1 : w.heap.size < W1.heap.size := (Array.getElem?_eq_some_iff.1 hN1).1
 obtain ⟨R1, hR1⟩ : ∃ R1, R1 = lay R i [u] := ⟨_, rfl⟩
 have hR1l : R1.size = G := by rw [hR1, lay_size, hRl]
 have hcp1 : ∀ ty, (Builtin.copy_ #[79, 79] ty #[.slice (some ⟨w.heap.size, i, none⟩) (n + 1 - i) (G - i), .slice (some ⟨vb, vo, none⟩) 1 vc]).run Tryz.prog W1 = .ok (goInt [u].length) (Ev.World.row W1 w.heap.size (.cells R1 28 (0, 0))) := fun ty => by
  rw [hR1]
  refine run_copy_lay (P := Tryz.prog) (gg := 0) W1 79 79 ty 28 w.heap.size i (n + 1 - i) (G - i) ⟨vb, vo, none⟩ 1 vc R 28 (0, 0) [u] Tryz.underlying79 sizeB1 hN1 (.inl rfl) (by simp only [Nat.min_def, List.length_singleton]; split <;> omega) (fun j x hj => ?_) (by rw [hRl, List.length_singleton]; omega) (by simpa using hu1) (by simp)
  match j, hj with
  | 0, hj =>
   cases hj
   rw [add_eq, cell_of_row W1 vb (vo + 0) _ ut _ ((hold1 vb hvl).trans hvb)]
   exact huc
 obtain ⟨W2, hW2⟩ : ∃ W2, W2 = Ev.World.row W1 w.heap.size (.cells R1 28 (0, 0)) := ⟨_, rfl⟩
 have hN2 : W2.heap[w.heap.size]? = some (.cells R1 28 (0, 0)) := by rw [hW2, row_heap _ _ _ _ hs1, if_pos rfl]
 have hold2 : ∀ k, k < w.heap.size → W2.heap[k]? = w.heap[k]? := fun k hk => by rw [hW2, row_heap _ _ _ _ hs1, if_neg (by omega)]; exact hold1 k hk
 have hs2 : w.heap.size < W2.drew.heap.size := (Array.getElem?_eq_some_iff.1 hN2).1
 obtain ⟨R2, hR2⟩ : ∃ R2, R2 = lay R1 (i + 1) (xs.drop i) := ⟨_, rfl⟩
 have hcp2 : ∀ ty, (Builtin.copy_ #[79, 79] ty #[.slice (some ⟨w.heap.size, i + 1, none⟩) (n - i) (G - (i + 1)), .slice (some ⟨g, O + i, none⟩) (n - i) (c - i)]).run Tryz.prog W2.drew = .ok (goInt (xs.drop i).length) (Ev.World.row W2.drew w.heap.size (.cells R2 28 (0, 0))) := fun ty => by
  rw [hR2]
  refine run_copy_lay (P := Tryz.prog) (gg := 0) W2.drew 79 79 ty 28 w.heap.size (i + 1) (n - i) (G - (i + 1)) ⟨g, O + i, none⟩ (n - i) (c - i) R1 28 (0, 0) (xs.drop i) Tryz.underlying79 sizeB1 hN2 (.inl rfl) (by rw [hdl]; simp) (fun j x hj => ?_) (by rw [hdl, hR1l]; omega) (fun x hx => h1 x (List.mem_of_mem_drop hx)) (fun e => by rw [e] at hdl; simp at hdl; omega)
  rw [add_eq]
  have e : (W2.drew).cell? ⟨g, O + i + j, none⟩ = w.cell? ⟨g, O + i + j, none⟩ := World.cell?_of_block (w := w) (hold2 g hgl)
  rw [e, Nat.add_assoc]
  rw [List.getElem?_drop] at hj
  exact hcell _ x hj
 have hfin := ins_list2 (u := u) hRt hxl hi (by omega)
 rw [← hR1, ← hR2] at hfin
 have hR2l : R2.size = G := by rw [hR2, lay_size, hR1l]
 rw [← hW2] at hcp1
 have HF : Hid (Insd w g O n i xs u N (.returned (.slice (some ⟨w.heap.size, 0, none⟩) (n + 1) G)) (Ev.World.row W2.drew w.heap.size (.cells R2 28 (0, 0)))) := by
  refine ⟨⟨w.heap.size, 0, G, R2, 28, (0, 0), rfl, by rw [row_heap _ _ _ _ hs2, if_pos rfl], .inl rfl, by rw [hR2l]; omega, hGn, fun j x hj => by rw [Nat.zero_add]; exact hfin j x hj, .inr ⟨rfl, rfl⟩⟩, fun B hB _ => ?_, ?_, ?_, ?_, ?_⟩
  ·rw [row_heap _ _ _ _ hs2, if_neg (by omega)]; exact hold2 B hB
  ·simp only [Ev.World.row, Array.size_setIfInBounds]; exact Nat.le_of_lt hs2
  ·rw [hW2, hW1]; rfl
  ·rw [hW2, hW1]; rfl
  ·rw [hW2, hW1]; rfl
 obtain ⟨M, hM⟩ : ∃ M, M = w.heap.size := ⟨_, rfl⟩
 rw [← hM] at hrz hcp1 hcp2
 have HF2 : Hid (Insd w g O n i xs u N (.returned (.slice (some ⟨M, 0, none⟩) (n + 1) G)) (Ev.World.row W2.drew M (.cells R2 28 (0, 0)))) := by rw [hM]; exact HF.out
 have s1 : ∀ w, (Instr.slice 79 (.slice (some ⟨g, O, none⟩) n c) (some (.int .i64 i)) none none).run Tryz.prog w = .ok (.slice (some ⟨g, O + i, none⟩) (n - i) (c - i)) w := sliceB_in g O n c i (by omega) (by omega)
 have s1' : ∀ w, (Instr.sliceAt 79 (.slice (some ⟨g, O, none⟩) n c) (some (.int .i64 i)) none none).run Tryz.prog w = .ok (.slice (some ⟨g, O + i, none⟩) (n - i) (c - i)) w := sliceBAt_in g O n c i (by omega) (by omega)
 have s2 : ∀ w, (Instr.slice 79 (.slice (some ⟨g, O, none⟩) n c) none (some (.int .i64 i)) none).run Tryz.prog w = .ok (.slice (some ⟨g, O, none⟩) i c) w := sliceB_upto g O n c i (by omega)
 have s2' : ∀ w, (Instr.sliceAt 79 (.slice (some ⟨g, O, none⟩) n c) none (some (.int .i64 i)) none).run Tryz.prog w = .ok (.slice (some ⟨g, O, none⟩) i c) w := sliceBAt_upto g O n c i (by omega)
 have s3 : ∀ w, (Instr.slice 79 (.slice (some ⟨M, 0, none⟩) (n + 1) G) (some (.int .i64 ((i : Int) + 1))) none none).run Tryz.prog w = .ok (.slice (some ⟨M, i + 1, none⟩) (n - i) (G - (i + 1))) w := fun w => by have := sliceB_in M 0 (n + 1) G (i + 1) (by omega) (by omega) w; rwa [show (((i + 1 : Nat)) : Int) = (i : Int) + 1 by omega, show n + 1 - (i + 1) = n - i by omega, Nat.zero_add] at this
 have s3' : ∀ w, (Instr.sliceAt 79 (.slice (some ⟨M, 0, none⟩) (n + 1) G) (some (.int .i64 ((i : Int) + 1))) none none).run Tryz.prog w = .ok (.slice (some ⟨M, i + 1, none⟩) (n - i) (G - (i + 1))) w := fun w => by have := sliceBAt_in M 0 (n + 1) G (i + 1) (by omega) (by omega) w; rwa [show (((i + 1 : Nat)) : Int) = (i : Int) + 1 by omega, show n + 1 - (i + 1) = n - i by omega, Nat.zero_add] at this
 have s4 : ∀ w, (Instr.slice 79 (.slice (some ⟨M, 0, none⟩) (n + 1) G) (some (.int .i64 i)) none none).run Tryz.prog w = .ok (.slice (some ⟨M, i, none⟩) (n + 1 - i) (G - i)) w := fun w => by have := sliceB_in M 0 (n + 1) G i (by omega) (by omega) w; rwa [Nat.zero_add] at this
 have s4' : ∀ w, (Instr.sliceAt 79 (.slice (some ⟨M, 0, none⟩) (n + 1) G) (some (.int .i64 i)) none none).run Tryz.prog w = .ok (.slice (some ⟨M, i, none⟩) (n + 1 - i) (G - i)) w := fun w => by have := sliceBAt_in M 0 (n + 1) G i (by omega) (by omega) w; rwa [Nat.zero_add] at this
 have d1 : ¬ ((i : Int) = (n : Int)) := by omega
 have d2 : (c : Int) < (n : Int) + 1 := by omega
 have d3 : c ≤ n := by omega
 have d4 : (c : Int) ≤ (n : Int) := by omega
 have hw1 : IntKind.i64.wrap ((i : Int) + 1) = (i : Int) + 1 := by rw [IntKind.wrap_i64]; omega
 have d5 : (0 : Int) ≤ (n : Int) + 1 - (i : Int) := by omega
 generalize hOj : O + i = Oj at *
 clear HF hfin hg hvb hx hR hRl hRt hR1 hR1l hR2 hR2l h1 hxl hdl hN1 hN2 hold1 hold2 hG hcell hold hgl hvl hM hW1 hW2 hs1 hs2 hOj huc hu1
 go_enter Tryz.func61, Tryz.ntmps61
 go_wp2_with (at_builtin; first | refine Lib.wpList_append_run _ (by rfl) _ _ 79 3 (by rfl) _ _ (by rfl) (by rfl) _ _ (hrz _) ?_ | refine wpList_copy_runI _ (by rfl) _ _ 79 79 (by rfl) _ _ (by rfl) (by rfl) (hcp1 _) ?_)
 go_region_law (refine step_copy_runI (by rfl) _ _ 79 79 (by rfl) _ _ (by simp [Act.eval, Act.put]) (by simp [Act.eval, Act.put]) (hcp2 _) ?_)
 go_wp2_with fail
 go_ret
 exact HF2.out
end Go.Proofs.YtglilbadldocoaaGreatDoor
