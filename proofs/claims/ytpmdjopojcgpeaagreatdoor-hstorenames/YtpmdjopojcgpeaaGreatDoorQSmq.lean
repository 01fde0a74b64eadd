import Derived.Test.YtpmdjopojcgpeaaGreatDoorQSumMq
/-
  New, Len, Copy, and the sum of parts.
-/
namespace Go.Proofs.YtpmdjopojcgpeaaGreatDoor.Dg
open Go.RowKit

/-- the program's first words -/
def First (w : World) : Prop := ∀ i, i < 8 → w.cell? ⟨0, i, none⟩ = some (.int .u32 (w8 H0 i))
theorem First.below {w w' : World} (h : First w) {B : Nat} (hb : Below B w w') (hB : 0 < B) : First w' := fun i hi => (hb.cell (p := ⟨0, i, none⟩) hB).trans (h i hi)

def N73 : Array Value := #[.int .u32 1779033703, .int .u32 3144134277, .int .u32 1013904242, .int .u32 2773480762, .int .u32 1359893119, .int .u32 2600822924, .int .u32 528734635, .int .u32 1541459225, .int .u8 0, .int .u8 0, .int .u8 0, .int .u8 0, .int .u8 0, .int .u8 0, .int .u8 0, .int .u8 0, .int .u8 0, .int .u8 0, .int .u8 0, .int .u8 0, .int .u8 0, .int .u8 0, .int .u8 0, .int .u8 0, .int .u8 0, .int .u8 0, .int .u8 0, .int .u8 0, .int .u8 0, .int .u8 0, .int .u8 0, .int .u8 0, .int .u8 0, .int .u8 0, .int .u8 0, .int .u8 0, .int .u8 0, .int .u8 0, .int .u8 0, .int .u8 0, .int .u8 0, .int .u8 0, .int .u8 0, .int .u8 0, .int .u8 0, .int .u8 0, .int .u8 0, .int .u8 0, .int .u8 0, .int .u8 0, .int .u8 0, .int .u8 0, .int .u8 0, .int .u8 0, .int .u8 0, .int .u8 0, .int .u8 0, .int .u8 0, .int .u8 0, .int .u8 0, .int .u8 0, .int .u8 0, .int .u8 0, .int .u8 0, .int .u8 0, .int .u8 0, .int .u8 0, .int .u8 0, .int .u8 0, .int .u8 0, .int .u8 0, .int .u8 0, .int .i64 0]
set_option maxRecDepth 100000 in
theorem N73_cell : ∀ i, i < 73 → N73[i]? = some (stc E0.tl H0 (fun _ => 0) 0 i) := by
  intro i hi
  unfold stc
  by_cases h1 : i < 8
  · rw [if_pos h1]
    match i, h1 with
    | 0, _ => rfl
    | 1, _ => rfl
    | 2, _ => rfl
    | 3, _ => rfl
    | 4, _ => rfl
    | 5, _ => rfl
    | 6, _ => rfl
    | 7, _ => rfl
  · rw [if_neg h1]
    have e : N73 = #[.int .u32 1779033703, .int .u32 3144134277, .int .u32 1013904242, .int .u32 2773480762, .int .u32 1359893119, .int .u32 2600822924, .int .u32 528734635, .int .u32 1541459225] ++ (Array.replicate 64 (.int .u8 0) ++ #[.int .i64 0]) := by rfl
    rw [e, Array.getElem?_append_right (by simp; omega)]
    by_cases h2 : i < 72
    · rw [if_pos h2, Array.getElem?_append_left (by simp; omega)]
      have e2 : i - (#[Value.int .u32 1779033703, .int .u32 3144134277, .int .u32 1013904242, .int .u32 2773480762, .int .u32 1359893119, .int .u32 2600822924, .int .u32 528734635, .int .u32 1541459225] : Array Value).size < 64 := by simp; omega
      rw [Array.getElem?_replicate, if_pos e2]
      rfl
    · rw [if_neg h2, Array.getElem?_append_right (by simp; omega)]
      have : i = 72 := by omega
      subst this
      rfl

def H8 : Array Value := #[.int .u32 1779033703, .int .u32 3144134277, .int .u32 1013904242, .int .u32 2773480762, .int .u32 1359893119, .int .u32 2600822924, .int .u32 528734635, .int .u32 1541459225]
theorem built54 : Tryz.prog.built 217 [(0, .agg (arr8 H0))] = some N73 := by kernel_rfl
theorem wpList_build_to {P : Program} {ops : Array Oper} {rest : List Oper} {o : Oper} {a : Act} {w : World} {Q : Exit → Act → World → Prop} (hg : o.guard = none) (t : TypeId) (parts : Array (Nat × Operand)) (ho : o.op = .build t parts) (cells : Array Value)
    (hb : P.built t (parts.map fun (i, x) => (i, a.eval x)).toList = some cells)
    (h : wpList P ops Q rest (a.put o.dst (.agg cells)) w) : wpList P ops Q (o :: rest) a w :=
  wpList_build hg t parts ho (by rw [hb]; rfl) (by rw [hb]; exact h)

set_option maxRecDepth 100000 in
theorem new_any (w : World) (hF : First w) : Calls Tryz.prog 98 #[] w fun e w' => e = .returned (.pointer (some ⟨w.heap.size, 0, none⟩)) ∧ St w' w.heap.size 0 (fun _ => 0) ∧ Below w.heap.size w w' := by
  have hc : ∀ j, j < (arr8 H0).size → w.cell? ⟨0, j, none⟩ = (arr8 H0)[j]? := fun j hj => (hF j hj).trans (arr8_cell H0 j hj).symm
  clear hF
  go_enter Tryz.func98, Tryz.ntmps98
  go_wp2_with (first
    | refine wpList_load_cells rfl 176 (.global 0) rfl 0 rfl (arr8 H0) _ hc Tryz.underlying176 rfl info51 ?_
    | refine wpList_build_to (by rfl) 217 #[(0, .tmp 1)] (by rfl) N73 (by simp only [List.map_toArray, List.map_cons, List.map_nil]; exact built54) ?_)
  go_ret
  have r := World.rowIs_alloc w N73 217 (stc E0.tl H0 (fun _ => 0) 0) (fun i hi => N73_cell i hi)
  exact ⟨rfl, ⟨⟨fun _ => 0, r, fun _ => (by decide : 0 < 256), fun i hi => absurd hi (by omega)⟩, fun _ => (by decide : 0 < 256)⟩, (Below.refl _ _).alloc (Nat.le_refl _) _⟩

theorem write_nil (w : World) (v : Value) : Calls Tryz.prog 99 #[.pointer none, v] w fun e w' => e = .returned (.tuple #[]) ∧ w' = w := by
  go_enter Tryz.func99, Tryz.ntmps99
  go_wp2
  refine bodyPost_ret (results_none rfl _ _ _) rfl ?_
  exact ⟨rfl, rfl⟩

structure Parts (w : World) (pa : Option Addr) (pb po k : Nat) (A : Nat → Option Addr) (b off m c : Nat → Nat) (Y : Nat → Nat → Nat) : Prop where
  at_ : 0 < k → pa = some ⟨pb, po, none⟩
  cell : ∀ i, i < k → w.cell? ⟨pb, po + i, none⟩ = some (.slice (A i) (m i) (c i))
  view : ∀ i, i < k → View w (A i) (b i) (off i) (m i) (fun j => (Y i j : Int))
  cap : ∀ i, i < k → m i ≤ c i
  bd : ∀ i j, Y i j < 256
theorem Parts.below {w w' : World} {pa : Option Addr} {pb po k : Nat} {A : Nat → Option Addr} {b off m c : Nat → Nat} {Y : Nat → Nat → Nat} (h : Parts w pa pb po k A b off m c Y) (hb : Below w.heap.size w w') : Parts w' pa pb po k A b off m c Y :=
  ⟨h.at_, fun i hi => (hb.cell (World.block_lt_of_cell? _ _ (h.cell i hi))).trans (h.cell i hi), fun i hi => (h.view i hi).below hb, h.cap, h.bd⟩
/-- how many bytes the first k have, and which -/
def tot (m : Nat → Nat) : Nat → Nat
  | 0 => 0
  | k + 1 => tot m k + m k
def jn (m : Nat → Nat) (Y : Nat → Nat → Nat) : Nat → Nat → Nat
  | 0 => fun _ => 0
  | k + 1 => cat (tot m k) (jn m Y k) (Y k)
theorem tot_mono (m : Nat → Nat) {i k : Nat} (h : i ≤ k) : tot m i ≤ tot m k := by
  induction k with
  | zero => rw [Nat.le_zero.1 h]; exact Nat.le_refl _
  | succ k ih =>
    by_cases e : i = k + 1
    · rw [e]; exact Nat.le_refl _
    · have := ih (by omega)
      simp only [tot]
      omega
theorem jn_lt {m : Nat → Nat} {Y : Nat → Nat → Nat} (h : ∀ i j, Y i j < 256) : ∀ k i, jn m Y k i < 256
  | 0, _ => by simp [jn]
  | k + 1, i => cat_lt (jn_lt h k) (h k) i

structure SmF (w wr : World) (n : Nat) (X : Nat → Nat) : Prop where
  below : Below w.heap.size w wr
  size : w.heap.size + 2 ≤ wr.heap.size
  out : wr.rowIs w.heap.size 38 32 (fun _ => .int .u8 0)
  st : St wr (w.heap.size + 1) n X

set_option maxRecDepth 100000 in
set_option maxHeartbeats 4000000 in
theorem sums_any (w : World) (pa : Option Addr) (pb po k cap : Nat) (A : Nat → Option Addr) (b off m c : Nat → Nat) (Y : Nat → Nat → Nat) (h : Parts w pa pb po k A b off m c Y) (hK : Roots w) (hF : First w) (hw : 3 < w.heap.size) (hkm : k ≤ 281474976710656) (hlen : tot m k ≤ 576460752303423488) :
    Calls Tryz.prog 57 #[.slice pa k cap] w fun e w' => e = .returned (.agg (hashA (digest (tot m k) (jn m Y k)))) ∧ Below w.heap.size w w' := by
  have b1 : Below w.heap.size w (w.alloc (.cells Z32 38)) := (Below.refl _ _).alloc (Nat.le_refl _) _
  have o1 : (w.alloc (.cells Z32 38)).rowIs w.heap.size 38 32 (fun _ => .int .u8 0) := by rw [Z32_rep]; exact zeros_row w _ 32 38
  have HP : Hid (Parts w pa pb po k A b off m c Y) := h
  have HB1 : Hid (Below w.heap.size w (w.alloc (.cells Z32 38)) ∧ (w.alloc (.cells Z32 38)).rowIs w.heap.size 38 32 (fun _ => .int .u8 0)) := ⟨b1, o1⟩
  have HK : Hid (Roots w) := hK
  have HFi : Hid (First w) := hF
  clear h b1 o1 hK hF
  go_enter Tryz.func57, Tryz.ntmps57
  go_wp2_with fail
  refine (new_any _ (HFi.out.below HB1.out.1 (by omega))).mono ?_
  rintro _ w1 ⟨rfl, st1, hb1⟩
  simp only [World.size_alloc] at st1
  have HS1 : Hid (SmF w w1 (tot m 0) (jn m Y 0)) := ⟨HB1.out.1.trans (hb1.mono (by simp)), by have := hb1.size; have := st1.lt; omega, HB1.out.2.of_block (hb1.block _ (by simp)), st1⟩
  clear st1 hb1 HB1
  go_wp2_with fail
  go_loopg [9] k (fun g i wr => ∃ j : Nat, j ≤ k ∧ g = k - j ∧ i = .int .i64 j ∧ SmF w wr (tot m j) (jn m Y j))
  case atStart => exact ⟨0, by omega, rfl, rfl, HS1.out⟩
  case round =>
    obtain ⟨j, hj, rfl, rfl, hR⟩ := hrel
    clear HS1
    by_cases hjk : j < k
    · obtain rfl := HP.out.at_ (by omega)
      have cj : wr.cell? ⟨pb, po + j, none⟩ = some (.slice (A j) (m j) (c j)) := (HP.out.below hR.below).cell j hjk
      have vj : View wr (A j) (b j) (off j) (m j) (fun t => (Y j t : Int)) := (HP.out.below hR.below).view j hjk
      have capj := HP.out.cap j hjk
      have bj : 0 < m j → b j ≠ w.heap.size + 1 := fun h0 => by have := (HP.out.view j hjk).lt h0; omega
      have lj : tot m j + m j ≤ 1152921504606846976 := by have := tot_mono m (show j + 1 ≤ k by omega); simp only [tot] at this; omega
      have HR : Hid (SmF w wr (tot m j) (jn m Y j)) := hR
      have HV : Hid (View wr (A j) (b j) (off j) (m j) (fun t => (Y j t : Int))) := vj
      clear hR vj
      go_wp2_with fail
      refine (write_any wr (w.heap.size + 1) _ _ HR.out.st _ (b j) (off j) (m j) (c j) (Y j) HV.out (HP.out.bd j) bj capj (HK.out.below HR.out.below hw) (by have := HR.out.size; omega) (by omega) lj).mono ?_
      rintro _ w2 ⟨rfl, hs2, st2⟩
      have HN : Hid (SmF w w2 (tot m (j + 1)) (jn m Y (j + 1))) := ⟨HR.out.below.trans (hs2.below (by omega) HR.out.below.size), Nat.le_trans HR.out.size hs2.size, hs2.row HR.out.out (by omega), st2⟩
      clear hs2 st2 cj
      go_wp2_with fail
      go_roundg (k - (j + 1))
      case measure => omega
      case rel => exact ⟨j + 1, by omega, rfl, by go_num, HN.out⟩
    · have : j = k := by omega
      subst this
      have HR : Hid (SmF w wr (tot m j) (jn m Y j)) := hR
      clear hR
      go_wp2_with fail
      refine (sum_any wr (w.heap.size + 1) _ _ HR.out.st (HK.out.below HR.out.below hw) (by have := HR.out.size; omega) hlen).mono ?_
      rintro _ w2 ⟨rfl, hb2⟩
      obtain ⟨os, og, osz, _⟩ := HR.out.out.of_block (hb2.block w.heap.size (by have := HR.out.size; omega))
      have hi : (Tryz.prog.info? 38).map (·.size) = some (hashA (digest (tot m j) (jn m Y j))).size := by rw [hashA_size]; exact info26
      have h1 : (hashA (digest (tot m j) (jn m Y j))).all (·.oneCell') = true := all_one (fun i hi => ⟨_, _, hashA_cell _ i (by rw [hashA_size] at hi; exact hi)⟩)
      have ho : os.size = (hashA (digest (tot m j) (jn m Y j))).size := by rw [hashA_size]; exact osz
      have HB : Hid (Below w.heap.size w w2) := HR.out.below.trans (hb2.mono HR.out.below.size)
      obtain ⟨hv, hhv⟩ : ∃ x, x = hashA (digest (tot m j) (jn m Y j)) := ⟨_, rfl⟩
      rw [← hhv] at hi h1 ho ⊢
      have Hhv : Hid (hv = hashA (digest (tot m j) (jn m Y j))) := hhv
      clear hhv hb2
      go_wp2_with (refine wpList_store_row (by rfl) 38 (.tmp 2) (.tmp 18) (by rfl) w.heap.size hv (by rfl) (by rfl) 38 os og hi ho h1 ?_)
      refine bodyPost_ret (v := .agg hv) ?_ rfl ?_
      · exact results_cell_row rfl _ _ w.heap.size 38 hv (0, 0) _ rfl (setRow_heap _ _ _ _ _ _ og) Tryz.underlying38 rfl hi
      · exact ⟨by rw [Hhv.out], below_setRow HB.out (Nat.le_refl _) _⟩
end Go.Proofs.YtpmdjopojcgpeaaGreatDoor.Dg
