import Derived.Test.YtpmdjopojcgpeaaGreatDoorQNtsq
import Derived.Test.YtpmdjopojcgpeaaGreatDoorQGenq
import Derived.Test.YtpmdjopojcgpeaaGreatDoorQLibAq
import Derived.Shelf.Spec.SlicesInsert
import Derived.Lib.AppendZerosOnto
import Derived.Laws.CopyRow
/-
  slices.Insert of one string.
-/
namespace Go.Proofs.YtpmdjopojcgpeaaGreatDoor.Dg
open Go.RowKit Go.Sort

theorem infoB : (Tryz.prog.info? 29).map (fun i => (i.zero, i.size, i.bytes)) = some (some nilS, 1, 24) := by kernel_rfl
theorem sizeB1 : (Tryz.prog.info? 29).map (·.size) = some 1 := by kernel_rfl
theorem elemB : Tryz.prog.elem 62 = 29 := by kernel_rfl
theorem sizeB (w : World) : (sizeOf 29).run Tryz.prog w = .ok 1 w := by
  have := sizeB1
  cases hq : Tryz.prog.info? 29 with
  | none => simp [hq] at this
  | some i => simp [hq] at this; simp [sizeOf, typeInfo, hq, this]
theorem sliceB_upto (a : Option Addr) (n c K : Nat) (h : K ≤ c) (w : World) : (Instr.slice 62 (.slice a n c) none (some (.int .i64 K)) none).run Tryz.prog w = .ok (.slice a K c) w := by
  rw [run_slice_h w 62 a n c (by rw [elemB]; exact Tryz.underlying62) .i64 K (by omega) (by omega), elemB, sizeB]
  simp only [Result.andThen, sliced]
  congr 1
  cases a <;> simp [Addr.add]
theorem sliceBAt_upto (a : Option Addr) (n c K : Nat) (h : K ≤ c) (w : World) : (Instr.sliceAt 62 (.slice a n c) none (some (.int .i64 K)) none).run Tryz.prog w = .ok (.slice a K c) w := by
  rw [run_sliceAt_slice w 62 _ _ _ _ (by rw [elemB]; exact Tryz.underlying62), sliceB_upto a n c K h w]
/-- where a list begins behind its first K -/
def behindB (a : Option Addr) (c K : Nat) : Option Addr := if c = K then a else a.map (·.add K)
theorem sliceB_from (a : Option Addr) (n c K : Nat) (h : K ≤ n) (w : World) : (Instr.slice 62 (.slice a n c) (some (.int .i64 K)) none none).run Tryz.prog w = .ok (.slice (behindB a c K) (n - K) (c - K)) w := by
  rw [run_slice_l w 62 a n c (by rw [elemB]; exact Tryz.underlying62) .i64 K (by omega) (by omega), elemB, sizeB]
  simp only [Result.andThen, sliced, behindB]
  simp
theorem sliceBAt_from (a : Option Addr) (n c K : Nat) (h : K ≤ n) (w : World) : (Instr.sliceAt 62 (.slice a n c) (some (.int .i64 K)) none none).run Tryz.prog w = .ok (.slice (behindB a c K) (n - K) (c - K)) w := by
  rw [run_sliceAt_slice w 62 _ _ _ _ (by rw [elemB]; exact Tryz.underlying62), sliceB_from a n c K h w]
theorem behindB_in (g c K : Nat) (h : K < c) : behindB (some ⟨g, 0, none⟩) c K = some ⟨g, K, none⟩ := by
  unfold behindB
  rw [if_neg (by omega)]
  simp [addr0]
theorem sliceB_in (g n c K : Nat) (h : K ≤ n) (hc : K < c) (w : World) : (Instr.slice 62 (.slice (some ⟨g, 0, none⟩) n c) (some (.int .i64 K)) none none).run Tryz.prog w = .ok (.slice (some ⟨g, K, none⟩) (n - K) (c - K)) w := by
  rw [sliceB_from _ n c K h, behindB_in g c K hc]
theorem sliceBAt_in (g n c K : Nat) (h : K ≤ n) (hc : K < c) (w : World) : (Instr.sliceAt 62 (.slice (some ⟨g, 0, none⟩) n c) (some (.int .i64 K)) none none).run Tryz.prog w = .ok (.slice (some ⟨g, K, none⟩) (n - K) (c - K)) w := by
  rw [sliceBAt_from _ n c K h, behindB_in g c K hc]

/-- WHAT Insert LEAVES: the row with u in its place i; no other old block has turned. -/
def Inserted (w w' : World) (v v' : Value) (n i : Nat) (xs : List Value) (u : Value) : Prop :=
  w'.ownsRow 0 29 1 v' (n + 1) (xs.take i ++ u :: xs.drop i) ∧ w.grownBy w' v.ownBlock ∧ (v'.ownBlock = v.ownBlock ∨ v'.ownBlock = some w.heap.size)

theorem cell_vb {w : World} {vb : Nat} {u : Value} {t : TypeId} (h : w.heap[vb]? = some (.cells #[u] t (0, 0))) : ∀ j x, [u][j]? = some x → w.cell? ((⟨vb, 0, none⟩ : Addr).add j) = some x := by
  intro j x hj
  match j, hj with
  | 0, hj =>
    simp at hj
    subst hj
    rw [addr0, cell_of_row w vb 0 _ t _ h]
    rfl

set_option maxRecDepth 100000 in
set_option maxHeartbeats 1600000 in
/-- at the end -/
theorem insert_end (w : World) (v : Value) (n : Nat) (xs : List Value) (u : Value) (vb : Nat) (own : w.ownsRow 0 29 1 v n xs) (hu1 : u.oneCell' = true) (hvb : w.heap[vb]? = some (.cells #[u] 29 (0, 0))) (hbig : n ≤ 1099511627776) :
    Calls Tryz.prog 102 #[v, .int .i64 n, .slice (some ⟨vb, 0, none⟩) 1 1] w fun e w' => ∃ v', e = .returned v' ∧ Inserted w w' v v' n n xs u := by
  obtain ⟨i0, hi0, hz0, hz1, hz2⟩ := info_parts infoB
  have hxl : xs.length = n := by have := own.1; omega
  obtain ⟨va, cap, rfl⟩ : ∃ va cap, v = .slice va n cap := by
    rcases own.2 with ⟨rfl, h0⟩ | ⟨g, cap, cur, rfl, _⟩
    · exact ⟨none, 0, by rw [h0]⟩
    · exact ⟨_, cap, rfl⟩
  have HO : Hid (w.ownsRow 0 29 1 (.slice va n cap) n xs) := own
  have HC : Hid (∀ j x, [u][j]? = some x → w.cell? ((⟨vb, 0, none⟩ : Addr).add j) = some x) := cell_vb hvb
  have HX : Hid (xs.take n ++ u :: xs.drop n = xs ++ [u]) := by
    show xs.take n ++ u :: xs.drop n = xs ++ [u]
    rw [List.take_of_length_le (by omega), List.drop_of_length_le (by omega)]
  have hs1 := sliceB_from va n cap n (Nat.le_refl _)
  have hs2 := sliceBAt_from va n cap n (Nat.le_refl _)
  clear own hvb hxl
  go_enter Tryz.func102, Tryz.ntmps102
  go_wp2_with (at_builtin; refine wpList_append_own_at _ (by rfl) _ _ 62 (by rfl) 0 29 i0 nilS 1 24 Tryz.underlying62 hi0 hz0 hz1 hz2 (by rfl) (by decide) _ n xs (by rfl) HO.out ⟨vb, 0, none⟩ 1 1 [u] (by rfl) (by rfl) HC.out (by simpa using hu1) (by unfold maxLen; omega) (by omega) (Nat.zero_le _) ?_; intro v' w1 h1 h2 h3 h4)
  go_ret
  refine ⟨v', rfl, ?_, h2, h4⟩
  rw [HX.out]
  exact h1

theorem insert_list {C xs : List Value} {n i : Nat} (u : Value) (hC : C.take n = xs) (hi : i < n) (hn : n + 1 ≤ C.length) :
    (((C.take (i + 1) ++ xs.drop i ++ C.drop (i + 1 + (xs.drop i).length)).take i ++ [u] ++ (C.take (i + 1) ++ xs.drop i ++ C.drop (i + 1 + (xs.drop i).length)).drop (i + [u].length)).take (n + 1)) = xs.take i ++ u :: xs.drop i ∧
    ((C.take (i + 1) ++ xs.drop i ++ C.drop (i + 1 + (xs.drop i).length)).take i ++ [u] ++ (C.take (i + 1) ++ xs.drop i ++ C.drop (i + 1 + (xs.drop i).length)).drop (i + [u].length)).length = C.length := by
  have hxl : xs.length = n := by rw [← hC]; simp; omega
  have hdl : (xs.drop i).length = n - i := by rw [List.length_drop, hxl]
  have e1 : (C.take (i + 1) ++ xs.drop i ++ C.drop (i + 1 + (xs.drop i).length)).take i = xs.take i := by
    rw [List.append_assoc, List.take_append_of_le_length (by simp; omega), List.take_take, ← hC, List.take_take]
    congr 1
    omega
  have e2 : (C.take (i + 1) ++ xs.drop i ++ C.drop (i + 1 + (xs.drop i).length)).drop (i + [u].length) = xs.drop i ++ C.drop (n + 1) := by
    rw [List.append_assoc, List.drop_append_of_le_length (by simp; omega)]
    have : (C.take (i + 1)).drop (i + [u].length) = [] := List.drop_of_length_le (by simp; omega)
    rw [this, List.nil_append, hdl]
    congr 2
    omega
  rw [e1, e2]
  constructor
  · rw [List.append_assoc]
    have : (xs.take i).length = i := by simp; omega
    rw [List.take_append, this]
    have : n + 1 - i = (n - i) + 1 := by omega
    rw [this, List.singleton_append, List.take_succ_cons, List.take_append_of_le_length (by omega), List.take_of_length_le (l := xs.drop i) (by omega), List.take_of_length_le (l := xs.take i) (by simp; omega)]
  · simp [hxl]
    omega

set_option maxRecDepth 100000 in
set_option maxHeartbeats 4000000 in
/-- there is room -/
theorem insert_room (w : World) (g n i c : Nat) (cur : Array Value) (xs : List Value) (u : Value) (vb : Nat) (hg : w.heap[g]? = some (.cells cur 29 (0, 0))) (hC : cur.toList.take n = xs) (hcs : cur.size = c) (hcm : c ≤ maxLen) (hi : i < n) (hroom : n + 1 ≤ c)
    (h1 : ∀ x ∈ xs, x.oneCell' = true) (hu1 : u.oneCell' = true) (hvb : w.heap[vb]? = some (.cells #[u] 29 (0, 0))) (hne : vb ≠ g) (hbig : n ≤ 1099511627776) :
    Calls Tryz.prog 102 #[.slice (some ⟨g, 0, none⟩) n c, .int .i64 i, .slice (some ⟨vb, 0, none⟩) 1 1] w fun e w' => ∃ v', e = .returned v' ∧ Inserted w w' (.slice (some ⟨g, 0, none⟩) n c) v' n i xs u := by
  have hxl : xs.length = n := by rw [← hC]; simp; omega
  have hdl : (xs.drop i).length = n - i := by rw [List.length_drop, hxl]
  have hov : ∀ W, W.heap[g]? = w.heap[g]? → W.heap[vb]? = w.heap[vb]? → ∀ lb cb, (callFunc 145 #[.slice (some ⟨vb, 0, none⟩) 1 1, .slice (some ⟨g, i + 1, none⟩) lb cb]).run Tryz.prog W = .ok (.value (.bool false)) W := fun W e1 e2 lb cb => by
    rw [run_callFunc_extern Tryz.func145 (by kernel_rfl) (by kernel_rfl) (by kernel_rfl) (e := Extern.SlicesOverlaps.overlaps #[62, 62] #[4]) (by kernel_rfl),
      Lib.run_overlaps_apart W 62 4 29 Tryz.underlying62 1 sizeB ⟨vb, 0, none⟩ ⟨g, i + 1, none⟩ 1 1 lb cb hne 29 29 1 c (by simp [World.shape?, e2, hvb]) (by simp [World.shape?, e1, hg, hcs]) (by omega) (by simp [World.frozen?, e2, hvb]) (by simp [World.frozen?, e2, hvb])]
    rfl
  have hov1 := hov w rfl rfl
  obtain ⟨C1, hC1⟩ : ∃ C1, C1 = cur.toList.take (i + 1) ++ xs.drop i ++ cur.toList.drop (i + 1 + (xs.drop i).length) := ⟨_, rfl⟩
  have hC1l : C1.length = c := by
    rw [hC1]
    simp [hdl]
    omega
  have hcp1 : ∀ ty, (Builtin.copy_ #[62, 62] ty #[.slice (some ⟨g, i + 1, none⟩) (n - i) (c - (i + 1)), .slice (some ⟨g, i, none⟩) (n + 1 - i) (c - i)]).run Tryz.prog w.drew = .ok (goInt (xs.drop i).length) (w.drew.setRow g C1.toArray) := fun ty => by
    rw [hC1]
    refine run_copy_row (P := Tryz.prog) w.drew _ _ ty 29 g (i + 1) (n - i) (c - (i + 1)) ⟨g, i, none⟩ (n + 1 - i) (c - i) cur 29 (xs.drop i) Tryz.underlying62 sizeB1 hg (by rw [hdl]; simp only [Nat.min_def]; split <;> omega) (fun j x hj => ?_) (by rw [hdl]; omega) (fun x hx => h1 x (List.mem_of_mem_drop hx))
    rw [Go.WideShapes.add_plain]
    have e : (w.drew).cell? ⟨g, i + j, none⟩ = cur[i + j]? := cell_of_row w g (i + j) cur _ _ hg
    rw [e]
    rw [List.getElem?_drop, ← hC, List.getElem?_take] at hj
    split at hj
    · simpa using hj
    · cases hj
  obtain ⟨W1, hW1⟩ : ∃ W1, W1 = w.drew.setRow g C1.toArray := ⟨_, rfl⟩
  have hg1 : W1.heap[g]? = some (.cells C1.toArray 29 (0, 0)) := by rw [hW1]; exact setRow_heap w.drew _ _ _ _ _ hg
  have hvb1 : W1.heap[vb]? = some (.cells #[u] 29 (0, 0)) := by rw [hW1, setRow_other w.drew g vb _ hne]; exact hvb
  have hcp2 : ∀ ty, (Builtin.copy_ #[62, 62] ty #[.slice (some ⟨g, i, none⟩) (n + 1 - i) (c - i), .slice (some ⟨vb, 0, none⟩) 1 1]).run Tryz.prog W1 = .ok (goInt [u].length) (W1.setRow g (C1.take i ++ [u] ++ C1.drop (i + [u].length)).toArray) := fun ty => by
    have := run_copy_row (P := Tryz.prog) W1 62 62 ty 29 g i (n + 1 - i) (c - i) ⟨vb, 0, none⟩ 1 1 C1.toArray 29 [u] Tryz.underlying62 sizeB1 hg1 (by simp only [Nat.min_def, List.length_singleton]; split <;> omega) (cell_vb hvb1) (by simp; omega) (by simpa using hu1)
    simpa using this
  have hfin := insert_list u hC hi (by simp; omega)
  rw [← hC1] at hfin
  rw [← hW1] at hcp1
  have HF0 : Hid (Inserted w (W1.setRow g (C1.take i ++ [u] ++ C1.drop (i + [u].length)).toArray) (.slice (some ⟨g, 0, none⟩) n c) (.slice (some ⟨g, 0, none⟩) (n + 1) c) n i xs u) := by
    refine ⟨⟨by simp [hxl]; omega, Or.inr ⟨g, c, _, rfl, Nat.zero_le _, setRow_heap W1 _ _ _ _ _ hg1, by omega, hcm, by rw [List.size_toArray, hfin.2]; simp [hcs], by rw [Nat.mul_one]; simpa using hfin.1⟩⟩, ?_, Or.inl rfl⟩
    refine ⟨by rw [hW1]; rfl, by rw [hW1]; rfl, by rw [hW1]; rfl, by rw [hW1]; simp, fun k hk hkg => ?_⟩
    have hkg' : k ≠ g := fun e => hkg (by rw [e]; rfl)
    rw [setRow_other W1 g k _ hkg', hW1, setRow_other w.drew g k _ hkg']
    rfl
  obtain ⟨A2, hA2⟩ : ∃ A2, A2 = (C1.take i ++ [u] ++ C1.drop (i + [u].length)).toArray := ⟨_, rfl⟩
  have HF : Hid (Inserted w (W1.setRow g A2) (.slice (some ⟨g, 0, none⟩) n c) (.slice (some ⟨g, 0, none⟩) (n + 1) c) n i xs u) := by rw [hA2]; exact HF0.out
  rw [← hA2] at hcp2
  clear HF0 hA2
  have s1 : ∀ w, (Instr.slice 62 (.slice (some ⟨g, 0, none⟩) n c) (some (.int .i64 i)) none none).run Tryz.prog w = .ok (.slice (some ⟨g, i, none⟩) (n - i) (c - i)) w := sliceB_in g n c i (by omega) (by omega)
  have s1' : ∀ w, (Instr.sliceAt 62 (.slice (some ⟨g, 0, none⟩) n c) (some (.int .i64 i)) none none).run Tryz.prog w = .ok (.slice (some ⟨g, i, none⟩) (n - i) (c - i)) w := sliceBAt_in g n c i (by omega) (by omega)
  have s2 : ∀ w, (Instr.slice 62 (.slice (some ⟨g, 0, none⟩) n c) none (some (.int .i64 ((n : Int) + 1))) none).run Tryz.prog w = .ok (.slice (some ⟨g, 0, none⟩) (n + 1) c) w := fun w => by have := sliceB_upto (some ⟨g, 0, none⟩) n c (n + 1) hroom w; rwa [show (((n + 1 : Nat)) : Int) = (n : Int) + 1 by omega] at this
  have s2' : ∀ w, (Instr.sliceAt 62 (.slice (some ⟨g, 0, none⟩) n c) none (some (.int .i64 ((n : Int) + 1))) none).run Tryz.prog w = .ok (.slice (some ⟨g, 0, none⟩) (n + 1) c) w := fun w => by have := sliceBAt_upto (some ⟨g, 0, none⟩) n c (n + 1) hroom w; rwa [show (((n + 1 : Nat)) : Int) = (n : Int) + 1 by omega] at this
  have s3 : ∀ w, (Instr.slice 62 (.slice (some ⟨g, 0, none⟩) (n + 1) c) (some (.int .i64 ((i : Int) + 1))) none none).run Tryz.prog w = .ok (.slice (some ⟨g, i + 1, none⟩) (n - i) (c - (i + 1))) w := fun w => by have := sliceB_in g (n + 1) c (i + 1) (by omega) (by omega) w; rwa [show (((i + 1 : Nat)) : Int) = (i : Int) + 1 by omega, show n + 1 - (i + 1) = n - i by omega] at this
  have s3' : ∀ w, (Instr.sliceAt 62 (.slice (some ⟨g, 0, none⟩) (n + 1) c) (some (.int .i64 ((i : Int) + 1))) none none).run Tryz.prog w = .ok (.slice (some ⟨g, i + 1, none⟩) (n - i) (c - (i + 1))) w := fun w => by have := sliceBAt_in g (n + 1) c (i + 1) (by omega) (by omega) w; rwa [show (((i + 1 : Nat)) : Int) = (i : Int) + 1 by omega, show n + 1 - (i + 1) = n - i by omega] at this
  have s4 : ∀ w, (Instr.slice 62 (.slice (some ⟨g, 0, none⟩) (n + 1) c) (some (.int .i64 i)) none none).run Tryz.prog w = .ok (.slice (some ⟨g, i, none⟩) (n + 1 - i) (c - i)) w := sliceB_in g (n + 1) c i (by omega) (by omega)
  have s4' : ∀ w, (Instr.sliceAt 62 (.slice (some ⟨g, 0, none⟩) (n + 1) c) (some (.int .i64 i)) none none).run Tryz.prog w = .ok (.slice (some ⟨g, i, none⟩) (n + 1 - i) (c - i)) w := sliceBAt_in g (n + 1) c i (by omega) (by omega)
  have d1 : ¬ ((i : Int) = (n : Int)) := by omega
  have d2 : ¬ ((c : Int) < (n : Int) + 1) := by omega
  have d3 : ¬ (c ≤ n) := by omega
  have d4 : ¬ ((c : Int) ≤ (n : Int)) := by omega
  have hw1 : IntKind.i64.wrap ((i : Int) + 1) = (i : Int) + 1 := by rw [IntKind.wrap_i64]; omega
  clear hov hfin hg1 hvb1 hg hvb hC hC1 hC1l h1 hxl hdl hcs hcm hW1
  go_enter Tryz.func102, Tryz.ntmps102
  go_wp2_with fail
  go_region_law (refine step_copy_runI (by rfl) _ _ 62 62 (by rfl) _ _ (by simp [Act.eval, Act.put]) (by simp [Act.eval, Act.put]) (hcp1 _) ?_)
  go_wp2_with (at_builtin; refine wpList_copy_runI _ (by rfl) _ _ 62 62 (by rfl) _ _ (by rfl) (by rfl) (hcp2 _) ?_)
  go_ret
  exact ⟨_, rfl, HF.out⟩

theorem insert_list2 {R xs : List Value} {n i : Nat} (u : Value) (hR : R.take i = xs.take i) (hxl : xs.length = n) (hi : i < n) (hn : n + 1 ≤ R.length) :
    (((R.take i ++ [u] ++ R.drop (i + [u].length)).take (i + 1) ++ xs.drop i ++ (R.take i ++ [u] ++ R.drop (i + [u].length)).drop (i + 1 + (xs.drop i).length)).take (n + 1)) = xs.take i ++ u :: xs.drop i ∧
    ((R.take i ++ [u] ++ R.drop (i + [u].length)).take (i + 1) ++ xs.drop i ++ (R.take i ++ [u] ++ R.drop (i + [u].length)).drop (i + 1 + (xs.drop i).length)).length = R.length := by
  have hdl : (xs.drop i).length = n - i := by rw [List.length_drop, hxl]
  have hti : (xs.take i).length = i := by simp; omega
  have e1 : (R.take i ++ [u] ++ R.drop (i + [u].length)).take (i + 1) = xs.take i ++ [u] := by
    rw [hR, List.take_append_of_le_length (by simp; omega), List.take_of_length_le (by simp; omega)]
  rw [e1]
  constructor
  · rw [List.take_append_of_le_length (by simp; omega), List.take_of_length_le (by simp; omega), List.append_assoc]
    rfl
  · simp [hxl]
    omega

set_option maxRecDepth 100000 in
set_option maxHeartbeats 4000000 in
/-- there is no room -/
theorem insert_grow (w : World) (g n i c : Nat) (cur : Array Value) (xs : List Value) (u : Value) (vb : Nat) (hg : w.heap[g]? = some (.cells cur 29 (0, 0))) (hC : cur.toList.take n = xs) (hcs : cur.size = c) (hi : i < n) (hnc : n ≤ c) (hroom : c < n + 1)
    (h1 : ∀ x ∈ xs, x.oneCell' = true) (hu1 : u.oneCell' = true) (hvb : w.heap[vb]? = some (.cells #[u] 29 (0, 0))) (hbig : n ≤ 1099511627776) :
    Calls Tryz.prog 102 #[.slice (some ⟨g, 0, none⟩) n c, .int .i64 i, .slice (some ⟨vb, 0, none⟩) 1 1] w fun e w' => ∃ v', e = .returned v' ∧ Inserted w w' (.slice (some ⟨g, 0, none⟩) n c) v' n i xs u := by
  obtain ⟨i0, hi0, hz0, hz1, hz2⟩ := info_parts infoB
  have hxl : xs.length = n := by rw [← hC]; simp; omega
  have hdl : (xs.drop i).length = n - i := by rw [List.length_drop, hxl]
  have hgl : g < w.heap.size := by have := (Array.getElem?_eq_some_iff.1 hg).1; exact this
  have hvl : vb < w.heap.size := by have := (Array.getElem?_eq_some_iff.1 hvb).1; exact this
  have hcell : ∀ (j : Nat) (x : Value), xs[j]? = some x → w.cell? ⟨g, j, none⟩ = some x := fun j x hj => by
    rw [cell_of_row w g j cur _ _ hg]
    rw [← hC, List.getElem?_take] at hj
    split at hj
    · simpa using hj
    · cases hj
  have hold : (Builtin.firstCells i0.size i (.slice (some ⟨g, 0, none⟩) i c)).run Tryz.prog w.drew = .ok (xs.take i).toArray w.drew := by
    rw [hz1]
    exact run_firstCells_some w.drew 1 i ⟨g, 0, none⟩ i c (xs.take i) (by rw [List.length_take]; omega) (fun j x hj => by
      rw [addr0]
      rw [List.getElem?_take] at hj
      split at hj
      · exact hcell j x hj
      · cases hj)
  obtain ⟨G, hG⟩ : ∃ G, G = grownCap w (n + 1) c 29 := ⟨_, rfl⟩
  obtain ⟨R, hR⟩ : ∃ R : List Value, R = xs.take i ++ ((Builtin.zeroCells nilS.cells (n + 1 - i)).toList ++ (Builtin.zeroCells nilS.cells (G - (n + 1))).toList) := ⟨_, rfl⟩
  have hGn : n + 1 ≤ G := by rw [hG]; exact grownCap_ge w _ _ _
  have hG63 : G ≤ maxLen := by rw [hG]; exact grownCap_le_maxLen w (n + 1) c _ (by unfold maxLen; omega)
  have hRl : R.length = G := by
    rw [hR]
    simp [Builtin.zeroCells, nilS, Value.cells]
    omega
  have hRt : R.take i = xs.take i := by
    rw [hR, List.take_append_of_le_length (by simp; omega), List.take_of_length_le (by simp; omega)]
  obtain ⟨W1, hW1⟩ : ∃ W1, W1 = w.drew.alloc (.cells R.toArray 29) := ⟨_, rfl⟩
  have hrz : ∀ ty, (Builtin.append_ #[62, 3] ty #[.slice (some ⟨g, 0, none⟩) i c, .int .i64 ((n : Int) + 1 - (i : Int))]).run Tryz.prog w = .ok (.slice (some ⟨w.heap.size, 0, none⟩) (n + 1) G) W1 := fun ty => by
    have h := Lib.run_append_grow_zeros (P := Tryz.prog) w 62 3 ty 29 i0 nilS .i64 .i64 Tryz.underlying62 Tryz.underlying3 hi0 hz0 (some ⟨g, 0, none⟩) i c (xs.take i) hold (n + 1 - i) (by omega) (by omega) (by omega) (by omega) (by rw [hz2]; omega) (by rw [hz2, show i + (n + 1 - i) = n + 1 by omega]; exact growslice_fits hroom (by omega))
    rw [show i + (n + 1 - i) = n + 1 by omega, ← hG] at h
    rw [show (n : Int) + 1 - (i : Int) = ((n + 1 - i : Nat) : Int) by omega, h, hW1, hR]
    congr 2
    congr 1
    apply Array.ext'
    simp
  have hN1 : W1.heap[w.heap.size]? = some (.cells R.toArray 29 (0, 0)) := by rw [hW1]; exact heap_alloc_new w.drew _
  have hold1 : ∀ k, k < w.heap.size → W1.heap[k]? = w.heap[k]? := fun k hk => by rw [hW1]; exact heap_alloc_old w.drew _ hk
  obtain ⟨R1, hR1⟩ : ∃ R1, R1 = R.take i ++ [u] ++ R.drop (i + [u].length) := ⟨_, rfl⟩
  have hR1l : R1.length = G := by rw [hR1]; simp [hRl]; omega
  have hcp1 : ∀ ty, (Builtin.copy_ #[62, 62] ty #[.slice (some ⟨w.heap.size, i, none⟩) (n + 1 - i) (G - i), .slice (some ⟨vb, 0, none⟩) 1 1]).run Tryz.prog W1 = .ok (goInt [u].length) (W1.setRow w.heap.size R1.toArray) := fun ty => by
    have := run_copy_row (P := Tryz.prog) W1 62 62 ty 29 w.heap.size i (n + 1 - i) (G - i) ⟨vb, 0, none⟩ 1 1 R.toArray 29 [u] Tryz.underlying62 sizeB1 hN1 (by simp only [Nat.min_def, List.length_singleton]; split <;> omega) (cell_vb ((hold1 vb hvl).trans hvb)) (by simp [hRl]; omega) (by simpa using hu1)
    rw [hR1]
    simpa using this
  obtain ⟨W2, hW2⟩ : ∃ W2, W2 = W1.setRow w.heap.size R1.toArray := ⟨_, rfl⟩
  have hN2 : W2.heap[w.heap.size]? = some (.cells R1.toArray 29 (0, 0)) := by rw [hW2]; exact setRow_heap W1 _ _ _ _ _ hN1
  have hold2 : ∀ k, k < w.heap.size → W2.heap[k]? = w.heap[k]? := fun k hk => by rw [hW2, setRow_other W1 _ k _ (by omega)]; exact hold1 k hk
  have hcp2 : ∀ ty, (Builtin.copy_ #[62, 62] ty #[.slice (some ⟨w.heap.size, i + 1, none⟩) (n - i) (G - (i + 1)), .slice (some ⟨g, i, none⟩) (n - i) (c - i)]).run Tryz.prog W2.drew = .ok (goInt (xs.drop i).length) (W2.drew.setRow w.heap.size (R1.take (i + 1) ++ xs.drop i ++ R1.drop (i + 1 + (xs.drop i).length)).toArray) := fun ty => by
    have := run_copy_row (P := Tryz.prog) W2.drew 62 62 ty 29 w.heap.size (i + 1) (n - i) (G - (i + 1)) ⟨g, i, none⟩ (n - i) (c - i) R1.toArray 29 (xs.drop i) Tryz.underlying62 sizeB1 hN2 (by rw [hdl]; simp) (fun j x hj => by
      rw [Go.WideShapes.add_plain]
      have e : (W2.drew).cell? ⟨g, i + j, none⟩ = w.cell? ⟨g, i + j, none⟩ := World.cell?_of_block (w := w) (hold2 g hgl)
      rw [e]
      rw [List.getElem?_drop] at hj
      exact hcell _ x hj) (by rw [hdl]; simp [hR1l]; omega) (fun x hx => h1 x (List.mem_of_mem_drop hx))
    simpa using this
  have hfin := insert_list2 u hRt hxl hi (by omega)
  rw [← hR1] at hfin
  rw [← hW2] at hcp1
  have HF0 : Hid (Inserted w (W2.drew.setRow w.heap.size (R1.take (i + 1) ++ xs.drop i ++ R1.drop (i + 1 + (xs.drop i).length)).toArray) (.slice (some ⟨g, 0, none⟩) n c) (.slice (some ⟨w.heap.size, 0, none⟩) (n + 1) G) n i xs u) := by
    refine ⟨⟨by simp [hxl]; omega, Or.inr ⟨w.heap.size, G, _, rfl, Nat.zero_le _, setRow_heap W2.drew _ _ _ _ _ hN2, hGn, hG63, by rw [List.size_toArray, hfin.2, hRl]; simp, by rw [Nat.mul_one]; simpa using hfin.1⟩⟩, ?_, Or.inr rfl⟩
    refine ⟨by rw [hW2, hW1]; rfl, by rw [hW2, hW1]; rfl, by rw [hW2, hW1]; rfl, by rw [hW2, hW1]; simp, fun k hk _ => ?_⟩
    rw [setRow_other W2.drew _ k _ (by omega)]
    exact hold2 k hk
  obtain ⟨A2, hA2⟩ : ∃ A2, A2 = (R1.take (i + 1) ++ xs.drop i ++ R1.drop (i + 1 + (xs.drop i).length)).toArray := ⟨_, rfl⟩
  have HF : Hid (Inserted w (W2.drew.setRow w.heap.size A2) (.slice (some ⟨g, 0, none⟩) n c) (.slice (some ⟨w.heap.size, 0, none⟩) (n + 1) G) n i xs u) := by rw [hA2]; exact HF0.out
  rw [← hA2] at hcp2
  clear HF0 hA2
  have s1 : ∀ w, (Instr.slice 62 (.slice (some ⟨g, 0, none⟩) n c) (some (.int .i64 i)) none none).run Tryz.prog w = .ok (.slice (some ⟨g, i, none⟩) (n - i) (c - i)) w := sliceB_in g n c i (by omega) (by omega)
  have s1' : ∀ w, (Instr.sliceAt 62 (.slice (some ⟨g, 0, none⟩) n c) (some (.int .i64 i)) none none).run Tryz.prog w = .ok (.slice (some ⟨g, i, none⟩) (n - i) (c - i)) w := sliceBAt_in g n c i (by omega) (by omega)
  have s2 : ∀ w, (Instr.slice 62 (.slice (some ⟨g, 0, none⟩) n c) none (some (.int .i64 i)) none).run Tryz.prog w = .ok (.slice (some ⟨g, 0, none⟩) i c) w := sliceB_upto _ n c i (by omega)
  have s2' : ∀ w, (Instr.sliceAt 62 (.slice (some ⟨g, 0, none⟩) n c) none (some (.int .i64 i)) none).run Tryz.prog w = .ok (.slice (some ⟨g, 0, none⟩) i c) w := sliceBAt_upto _ n c i (by omega)
  obtain ⟨N, hN⟩ : ∃ N, N = w.heap.size := ⟨_, rfl⟩
  rw [← hN] at hrz hcp1 hcp2 HF
  have s3 : ∀ w, (Instr.slice 62 (.slice (some ⟨N, 0, none⟩) (n + 1) G) (some (.int .i64 ((i : Int) + 1))) none none).run Tryz.prog w = .ok (.slice (some ⟨N, i + 1, none⟩) (n - i) (G - (i + 1))) w := fun w => by have := sliceB_in N (n + 1) G (i + 1) (by omega) (by omega) w; rwa [show (((i + 1 : Nat)) : Int) = (i : Int) + 1 by omega, show n + 1 - (i + 1) = n - i by omega] at this
  have s3' : ∀ w, (Instr.sliceAt 62 (.slice (some ⟨N, 0, none⟩) (n + 1) G) (some (.int .i64 ((i : Int) + 1))) none none).run Tryz.prog w = .ok (.slice (some ⟨N, i + 1, none⟩) (n - i) (G - (i + 1))) w := fun w => by have := sliceBAt_in N (n + 1) G (i + 1) (by omega) (by omega) w; rwa [show (((i + 1 : Nat)) : Int) = (i : Int) + 1 by omega, show n + 1 - (i + 1) = n - i by omega] at this
  have s4 : ∀ w, (Instr.slice 62 (.slice (some ⟨N, 0, none⟩) (n + 1) G) (some (.int .i64 i)) none none).run Tryz.prog w = .ok (.slice (some ⟨N, i, none⟩) (n + 1 - i) (G - i)) w := sliceB_in N (n + 1) G i (by omega) (by omega)
  have s4' : ∀ w, (Instr.sliceAt 62 (.slice (some ⟨N, 0, none⟩) (n + 1) G) (some (.int .i64 i)) none none).run Tryz.prog w = .ok (.slice (some ⟨N, i, none⟩) (n + 1 - i) (G - i)) w := sliceBAt_in N (n + 1) G i (by omega) (by omega)
  have d1 : ¬ ((i : Int) = (n : Int)) := by omega
  have d2 : (c : Int) < (n : Int) + 1 := by omega
  have d3 : c ≤ n := by omega
  have d4 : (c : Int) ≤ (n : Int) := by omega
  have hw1 : IntKind.i64.wrap ((i : Int) + 1) = (i : Int) + 1 := by rw [IntKind.wrap_i64]; omega
  have d5 : (0 : Int) ≤ (n : Int) + 1 - (i : Int) := by omega
  clear hfin hg hvb hC hR hRl hRt hR1 hR1l h1 hxl hdl hcs hN1 hN2 hold1 hold2 hG hG63 hcell hold hgl hvl hN hW1 hW2
  go_enter Tryz.func102, Tryz.ntmps102
  go_wp2_with (at_builtin; first | refine Lib.wpList_append_run _ (by rfl) _ _ 62 3 (by rfl) _ _ (by rfl) (by rfl) _ _ (hrz _) ?_ | refine wpList_copy_runI _ (by rfl) _ _ 62 62 (by rfl) _ _ (by rfl) (by rfl) (hcp1 _) ?_)
  go_region_law (refine step_copy_runI (by rfl) _ _ 62 62 (by rfl) _ _ (by simp [Act.eval, Act.put]) (by simp [Act.eval, Act.put]) (hcp2 _) ?_)
  go_wp2_with fail
  go_ret
  exact ⟨_, rfl, HF.out⟩

theorem insert_any (w : World) (v : Value) (n i : Nat) (xs : List Value) (u : Value) (vb : Nat) (own : w.ownsRow 0 29 1 v n xs) (hi : i ≤ n) (h1 : ∀ x ∈ xs, x.oneCell' = true) (hu1 : u.oneCell' = true) (hvb : w.heap[vb]? = some (.cells #[u] 29 (0, 0))) (hne : v.ownBlock ≠ some vb) (hbig : n ≤ 1099511627776) :
    Calls Tryz.prog 102 #[v, .int .i64 i, .slice (some ⟨vb, 0, none⟩) 1 1] w fun e w' => ∃ v', e = .returned v' ∧ Inserted w w' v v' n i xs u := by
  by_cases e : i = n
  · subst e
    exact insert_end w v i xs u vb own hu1 hvb hbig
  · rcases own.2 with ⟨rfl, h0⟩ | ⟨g, cap, cur, rfl, _, hg, hnc, hcm, hcs, ht⟩
    · omega
    · rw [Nat.mul_one] at hcs ht
      by_cases hr : n + 1 ≤ cap
      · exact insert_room w g n i cap cur xs u vb hg ht hcs hcm (by omega) hr h1 hu1 hvb (fun q => hne (by rw [q]; rfl)) hbig
      · exact insert_grow w g n i cap cur xs u vb hg ht hcs (by omega) hnc (by omega) h1 hu1 hvb hbig
end Go.Proofs.YtpmdjopojcgpeaaGreatDoor.Dg
