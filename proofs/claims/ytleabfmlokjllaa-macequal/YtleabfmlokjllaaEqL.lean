/-
  MacEqual: the law.
-/
import Derived.Test.YtleabfmlokjllaaEqB
namespace Go.Proofs.Ytleabfmlokjllaa
open Go.RowKit

theorem shl_all : ∀ s : Nat, s < 8 → IntKind.u8.wrap ((2 : Int) ^ s) = ((2 ^ s : Nat) : Int) := by decide
theorem all_one {cs : Array Value} (h : ∀ i, i < cs.size → ∃ k n, cs[i]? = some (.int k n)) : cs.all (·.oneCell') = true := by
  rw [Array.all_eq_true]
  intro i hi
  obtain ⟨k, n, e⟩ := h i hi
  rw [Array.getElem?_eq_getElem hi] at e
  rw [Option.some.inj e]
  rfl
def Z32 : Array Value := #[.int .u8 0, .int .u8 0, .int .u8 0, .int .u8 0, .int .u8 0, .int .u8 0, .int .u8 0, .int .u8 0, .int .u8 0, .int .u8 0, .int .u8 0, .int .u8 0, .int .u8 0, .int .u8 0, .int .u8 0, .int .u8 0, .int .u8 0, .int .u8 0, .int .u8 0, .int .u8 0, .int .u8 0, .int .u8 0, .int .u8 0, .int .u8 0, .int .u8 0, .int .u8 0, .int .u8 0, .int .u8 0, .int .u8 0, .int .u8 0, .int .u8 0, .int .u8 0]
theorem arrA_one (F : Nat → Nat) : (arrA F).all (·.oneCell') = true := all_one (fun i hi => ⟨_, _, arrA_cell _ i (by rw [arrA_size] at hi; exact hi)⟩)
theorem arrA_info (F : Nat → Nat) : (Try.prog.info? 23).map (·.size) = some (arrA F).size := by rw [arrA_size]; exact info23
theorem Z32_arr (F : Nat → Nat) : Z32.size = (arrA F).size := by rw [arrA_size]; rfl
/-- the law's three hashes -/
structure EqT (w wr : World) (F G C : Nat → Nat) : Prop where
  below : Below w.heap.size w wr
  size : w.heap.size + 3 ≤ wr.heap.size
  r0 : wr.rowIs w.heap.size 23 32 (fun i => .int .u8 (F i))
  r1 : wr.rowIs (w.heap.size + 1) 23 32 (fun i => .int .u8 (G i))
  r2 : wr.rowIs (w.heap.size + 2) 23 32 (fun i => .int .u8 (C i))
theorem EqT.step {w wr w' : World} {F G C : Nat → Nat} (h : EqT w wr F G C) (hb : Below wr.heap.size wr w') : EqT w w' F G C :=
  ⟨h.below.trans (hb.mono h.below.size), Nat.le_trans h.size hb.size, h.r0.of_block (hb.block _ h.r0.lt), h.r1.of_block (hb.block _ h.r1.lt), h.r2.of_block (hb.block _ h.r2.lt)⟩
theorem row_range {w : World} {g : Nat} {F : Nat → Nat} (h : w.rowIs g 23 32 (fun i => .int .u8 (F i))) : w.rangeAt g 0 (arrL F) := by
  intro j v hj
  have hl : j < 32 := by
    have := (List.getElem?_eq_some_iff.1 hj).1
    simpa [arrL] using this
  rw [Nat.zero_add, h.cell hl]
  unfold arrL at hj
  rw [List.getElem?_map, List.getElem?_range hl] at hj
  exact hj
theorem EqT.ranges {w wr : World} {F G C : Nat → Nat} (h : EqT w wr F G C) : wr.rangeAt w.heap.size 0 (arrL F) ∧ wr.rangeAt (w.heap.size + 1) 0 (arrL G) ∧ wr.rangeAt (w.heap.size + 2) 0 (arrL C) := ⟨row_range h.r0, row_range h.r1, row_range h.r2⟩
theorem eqt_start (w : World) (F G : Nat → Nat) : EqT w ((((w.alloc (.cells (arrA F) 23)).alloc (.cells (arrA G) 23)).alloc (.cells Z32 23)).setRow (w.heap.size + 2) (arrA F)) F G F := by
  have e := eqf_start w F G
  have z2 : ((w.alloc (.cells (arrA F) 23)).alloc (.cells (arrA G) 23)).heap.size = w.heap.size + 2 := by simp
  have hn := heap_alloc_new ((w.alloc (.cells (arrA F) 23)).alloc (.cells (arrA G) 23)) (.cells Z32 23)
  rw [z2] at hn
  have s : ∀ k, k < w.heap.size + 2 → ((((w.alloc (.cells (arrA F) 23)).alloc (.cells (arrA G) 23)).alloc (.cells Z32 23)).setRow (w.heap.size + 2) (arrA F)).heap[k]? = ((w.alloc (.cells (arrA F) 23)).alloc (.cells (arrA G) 23)).heap[k]? := fun k hk => by
    rw [setRow_other _ _ _ _ (by omega), heap_alloc_old _ _ (by omega)]
  refine ⟨?_, by simp [World.setRow], e.r2.of_block (s _ (by omega)), e.r3.of_block (s _ (by omega)), ⟨arrA F, setRow_heap _ _ _ _ _ _ hn, arrA_size F, fun i hi => arrA_cell F i hi⟩⟩
  exact ⟨rfl, rfl, rfl, by simp [World.setRow]; omega, fun k hk => (s k (by omega)).trans (e.below.block k hk)⟩

set_option maxRecDepth 100000 in
set_option maxHeartbeats 1600000 in
theorem equal_law (w : World) (F G : Nat → Nat) (hF : ∀ i, F i < 256) (hG : ∀ i, G i < 256) (bit : Int) :
    Calls Try.prog 3 #[.agg (arrA F), .agg (arrA G), .int .i64 bit] w fun e w' => e = .returned (.bool true) ∧ Below w.heap.size w w' := by
  obtain ⟨i, hi⟩ : ∃ i : Nat, bit % 256 = (i : Int) := ⟨(bit % 256).toNat, by omega⟩
  have hi2 : i < 256 := by omega
  have r := rest_eq bit 256 (by decide)
  rw [hi] at r
  have rb1 : -256 < bit.tmod 256 := Int.lt_tmod_of_pos bit (by decide)
  have rb2 : bit.tmod 256 < 256 := Int.tmod_lt_of_pos bit (by decide)
  have HT : Hid (EqT w ((((w.alloc (.cells (arrA F) 23)).alloc (.cells (arrA G) 23)).alloc (.cells Z32 23)).setRow (w.heap.size + 2) (arrA F)) F G F) := eqt_start w F G
  have hg0 : ((w.alloc (.cells (arrA F) 23)).alloc (.cells (arrA G) 23)).heap[w.heap.size]? = some (.cells (arrA F) 23 (0, 0)) := by
    rw [heap_alloc_old _ _ (by simp)]
    exact heap_alloc_new _ _
  have hgn : (((w.alloc (.cells (arrA F) 23)).alloc (.cells (arrA G) 23)).alloc (.cells Z32 23)).heap[w.heap.size + 2]? = some (.cells Z32 23 (0, 0)) := by
    have := heap_alloc_new ((w.alloc (.cells (arrA F) 23)).alloc (.cells (arrA G) 23)) (.cells Z32 23)
    simpa using this
  have HF : Hid (∀ i, F i < 256) := hF
  have HG : Hid (∀ i, G i < 256) := hG
  clear hi hF hG
  go_enter Try.func3, Try.ntmps3
  go_wp2_with (first
    | refine wpList_load_row (by rfl) 23 (.tmp 3) (by rfl) w.heap.size (by rfl) 23 (arrA F) (0, 0) _ hg0 Try.underlying23 (by rfl) (arrA_info F) ?_
    | (refine wpList_store_row (by rfl) 23 (.tmp 8) (.tmp 13) (by rfl) (w.heap.size + 2) (arrA F) (by rfl) (by rfl) 23 Z32 hgn (arrA_info F) (Z32_arr F) (arrA_one F) ?_; change wpList _ _ _ _ _ ((((w.alloc (.cells (arrA F) 23)).alloc (.cells (arrA G) 23)).alloc (.cells Z32 23)).setRow (w.heap.size + 2) (arrA F)); revert HT; generalize (((w.alloc (.cells (arrA F) 23)).alloc (.cells (arrA G) 23)).alloc (.cells Z32 23)).setRow (w.heap.size + 2) (arrA F) = w1; intro HT))
  clear hg0 hgn
  obtain ⟨d, hd⟩ : ∃ d, d = i / 8 := ⟨_, rfl⟩
  obtain ⟨s, hs⟩ : ∃ s, s = i % 8 := ⟨_, rfl⟩
  have d32 : d < 32 := by omega
  have s8 : s < 8 := by omega
  have di : (d : Int) < 32 := by omega
  have e1 : ((i : Nat) : Int).tdiv 8 = (d : Int) := by rw [Int.tdiv_eq_ediv_of_nonneg (by omega)]; omega
  have e2 : ((i : Nat) : Int).tmod 8 = (s : Int) := by rw [Int.tmod_eq_emod_of_nonneg (by omega)]; omega
  have e3 : ((i : Nat) : Int) / 8 = (d : Int) := by omega
  have e4 : ((i : Nat) : Int) % 8 = (s : Int) := by omega
  have e5 : IntKind.i64.wrap (d : Int) = (d : Int) := by rw [IntKind.wrap_i64]; omega
  have e6 : IntKind.i64.wrap (s : Int) = (s : Int) := by rw [IntKind.wrap_i64]; omega
  have cd := HT.out.r2.drew.cell (i := d) d32
  have fd := HT.out.r2.drew.frozen d
  obtain ⟨x, hx⟩ : ∃ x, x = F d := ⟨_, rfl⟩
  have hx2 : x < 256 := by rw [hx]; exact HF.out d
  rw [← hx] at cd
  have Hx : Hid (x = F d) := hx
  have esh : IntKind.u8.wrap ((2 : Int) ^ s) = ((2 ^ s : Nat) : Int) := shl_all s s8
  obtain ⟨y, hy⟩ : ∃ y, y = 2 ^ s := ⟨_, rfl⟩
  rw [← hy] at esh
  have hy2 : y < 256 := by rw [hy]; exact Nat.lt_of_lt_of_le (Nat.pow_lt_pow_right (by decide) s8) (by decide)
  have hy0 : 0 < y := by rw [hy]; exact Nat.two_pow_pos s
  have hxx := u8_xor_nat x y hx2 hy2
  have cd1 : w1.drew.cell? ⟨w.heap.size + 1 + 1, d, none⟩ = some (.int .u8 x) := cd
  have fd1 : w1.drew.frozen? ⟨w.heap.size + 1 + 1, d, none⟩ = false := fd
  have cd2 : w1.cell? ⟨w.heap.size + 1 + 1, d, none⟩ = some (.int .u8 x) := cd
  have fd2 : w1.frozen? ⟨w.heap.size + 1 + 1, d, none⟩ = false := fd
  clear hd hs hx hy
  refine wp_region_held_drew (S := fun _ => True) (by kernel_rfl) trivial ?_
  intro hS
  change wpAnyH _ _ _ _ _ 12 _ _ _
  refine wpAnyH_take (i := 0) (v := ?_) (by simp only [List.getElem?_toArray, List.getElem?_cons_zero]; rfl) (by kernel_rfl) (by kernel_rfl) (by kernel_rfl) (by exact fun _ _ _ h => h) (Or.inl ⟨by rfl, ?_⟩) trivial ?_
  rotate_left
  · intro w' _
    go_simp
    try with_reducible rfl
  refine wpAnyH_take (i := 1) (v := ?_) (by simp only [List.getElem?_toArray, List.getElem?_cons_zero, List.getElem?_cons_succ]; rfl) (by kernel_rfl) (by kernel_rfl) (by kernel_rfl) (by exact fun _ _ _ h => h) (Or.inl ⟨by rfl, ?_⟩) trivial ?_
  rotate_left
  · intro w' _
    go_simp
    try with_reducible rfl
  refine wpAnyH_take (i := 2) (v := ?_) (by simp only [List.getElem?_toArray, List.getElem?_cons_zero, List.getElem?_cons_succ]; rfl) (by kernel_rfl) (by kernel_rfl) (by kernel_rfl) (by exact fun _ _ _ h => h) (Or.inl ⟨by rfl, ?_⟩) trivial ?_
  rotate_left
  · intro w' _
    go_simp
    try with_reducible rfl
  refine wpAnyH_take (i := 3) (v := ?_) (by simp only [List.getElem?_toArray, List.getElem?_cons_zero, List.getElem?_cons_succ]; rfl) (by kernel_rfl) (by kernel_rfl) (by kernel_rfl) (by exact fun _ _ _ h => h) (Or.inl ⟨by rfl, ?_⟩) trivial ?_
  rotate_left
  · intro w' _
    go_simp
    try with_reducible rfl
  refine wpAnyH_take (i := 4) (v := ?_) (by simp only [List.getElem?_toArray, List.getElem?_cons_zero, List.getElem?_cons_succ]; rfl) (by kernel_rfl) (by kernel_rfl) (by kernel_rfl) (by exact fun _ _ _ h => h) (Or.inl ⟨by rfl, ?_⟩) trivial ?_
  rotate_left
  · intro w' _
    go_simp
    try with_reducible rfl
  refine wpAnyH_take (i := 6) (v := ?_) (by simp only [List.getElem?_toArray, List.getElem?_cons_zero, List.getElem?_cons_succ]; rfl) (by kernel_rfl) (by kernel_rfl) (by kernel_rfl) (by exact fun _ _ _ h => h) (Or.inl ⟨by rfl, ?_⟩) trivial ?_
  rotate_left
  · intro w' _
    go_simp
    try with_reducible rfl
  refine wpAnyH_take (i := 7) (v := ?_) (by simp only [List.getElem?_toArray, List.getElem?_cons_zero, List.getElem?_cons_succ]; rfl) (by kernel_rfl) (by kernel_rfl) (by kernel_rfl) (by exact fun _ _ _ h => h) (Or.inl ⟨by rfl, ?_⟩) trivial ?_
  rotate_left
  · intro w' _
    go_simp
    try with_reducible rfl
  refine wpAnyH_take (i := 8) (v := ?_) (by simp only [List.getElem?_toArray, List.getElem?_cons_zero, List.getElem?_cons_succ]; rfl) (by kernel_rfl) (by kernel_rfl) (by kernel_rfl) (by exact fun _ _ _ h => h) (Or.inl ⟨by rfl, ?_⟩) trivial ?_
  rotate_left
  · intro w' _
    go_simp
    try with_reducible rfl
  refine wpAnyH_ready (rs := [5]) (by kernel_rfl) (by simp) ?_
  refine AllReadyH.cons (by simp only [List.getElem?_toArray, List.getElem?_cons_zero, List.getElem?_cons_succ]; rfl) (fun K' hK => ?_) AllReadyH.nil
  go_simp
  refine hK.out _ _ trivial (fun _ => ?_)
  clear hK K'
  refine wpAnyH_take (i := 9) (v := ?_) (by simp only [List.getElem?_toArray, List.getElem?_cons_zero, List.getElem?_cons_succ]; rfl) (by kernel_rfl) (by kernel_rfl) (by kernel_rfl) (by exact fun _ _ _ h => h) (Or.inl ⟨by rfl, ?_⟩) trivial ?_
  rotate_left
  · intro w' _
    go_simp
    try with_reducible rfl
  refine wpAnyH_take (i := 10) (v := ?_) (by simp only [List.getElem?_toArray, List.getElem?_cons_zero, List.getElem?_cons_succ]; rfl) (by kernel_rfl) (by kernel_rfl) (by kernel_rfl) (by exact fun _ _ _ h => h) (Or.inl ⟨by rfl, ?_⟩) trivial ?_
  rotate_left
  · intro w' _
    go_simp
    try with_reducible rfl
  refine wpAnyH_ready (rs := [11]) (by kernel_rfl) (by simp) ?_
  refine AllReadyH.cons (by simp only [List.getElem?_toArray, List.getElem?_cons_zero, List.getElem?_cons_succ]; rfl) (fun K' hK => ?_) AllReadyH.nil
  go_simp
  refine hK.out _ _ trivial (fun _ => ?_)
  clear hK K' cd fd cd1 fd1 cd2 fd2 hxx esh
  refine wpAnyH_done (by kernel_rfl) ?_ _
  have t2 : EqT w ((w1.setCell ⟨w.heap.size + 1 + 1, d, none⟩ (.int .u8 ((x ^^^ y : Nat) : Int))).drew) F G (turnd F d y) := by
    have h := HT.out
    have z := h.size
    refine ⟨(h.below.setCell (by show w.heap.size ≤ w.heap.size + 1 + 1; omega) _).drew, by show _ ≤ (w1.setCell _ _).heap.size; simp [World.setCell]; omega, (h.r0.setOther (by show w.heap.size ≠ w.heap.size + 1 + 1; omega) _).drew, (h.r1.setOther (by show w.heap.size + 1 ≠ w.heap.size + 1 + 1; omega) _).drew, ((h.r2.set d _).congr (fun j _ => ?_)).drew⟩
    unfold turnd
    by_cases e : j = d
    · rw [if_pos e, if_pos e, Hx.out]
    · rw [if_neg e, if_neg e]
  revert t2
  generalize (w1.setCell ⟨w.heap.size + 1 + 1, d, none⟩ (.int .u8 ((x ^^^ y : Nat) : Int))).drew = w2
  intro t2
  have tn := turnd_ne (F := F) d32 hy0
  obtain ⟨C, hC⟩ : ∃ C, C = turnd F d y := ⟨_, rfl⟩
  have hC2 : ∀ i, C i < 256 := by rw [hC]; exact turnd_lt HF.out hy2 d
  rw [← hC] at t2 tn
  have H2 : Hid (EqT w w2 F G C) := t2
  have HC : Hid (∀ i, C i < 256) := hC2
  have HN : Hid (ap F C 32 ≠ 0 ∧ ap C F 32 ≠ 0) := tn
  clear HT t2 hC hC2 tn Hx
  obtain ⟨b, hb⟩ : ∃ b, b = decide (ap F G 32 = 0) := ⟨_, rfl⟩
  have eqh : ∀ w0, (Op.equalIn 10000 23 (.agg (arrL F).toArray) (.agg (arrL G).toArray)).run Try.prog w0 = .ok b w0 := fun w0 => by rw [hb]; exact equalIn_any w0 F G HF.out HG.out
  have Hb : Hid (b = decide (ap F G 32 = 0)) := hb
  clear hb
  go_wp2_with fail
  have bd : Below w2.heap.size w2 w2.drew := (Below.refl _ _).drew
  have t3 := H2.out.step bd
  have H3 : Hid (EqT w w2.drew F G C) := t3
  clear bd t3
  refine wp_region_held_drew (S := fun w' => w'.rangeAt w.heap.size 0 (arrL F) ∧ w'.rangeAt (w.heap.size + 1) 0 (arrL G) ∧ w'.rangeAt (w.heap.size + 2) 0 (arrL C)) (by kernel_rfl) H3.out.ranges ?_
  intro hS
  change wpAnyH _ _ _ _ _ 25 _ _ _
  refine wpAnyH_take (i := 0) (by simp only [List.getElem?_toArray, List.getElem?_cons_zero]; rfl) (by kernel_rfl) (by kernel_rfl) (by kernel_rfl) (by exact fun _ _ _ h => h) (yieldsIf_load_mid (by rfl) _ _ rfl _ _ rfl _ _ (fun _ h => h.1) Try.underlying23 rfl (arrL_len _)) hS ?_
  refine wpAnyH_take (i := 1) (by simp only [List.getElem?_toArray, List.getElem?_cons_zero, List.getElem?_cons_succ]; rfl) (by kernel_rfl) (by kernel_rfl) (by kernel_rfl) (by exact fun _ _ _ h => h) (yieldsIf_load_mid (by rfl) _ _ rfl _ _ rfl _ _ (fun _ h => h.2.1) Try.underlying23 rfl (arrL_len _)) hS ?_
  refine wpAnyH_take (i := 3) (by simp only [List.getElem?_toArray, List.getElem?_cons_zero, List.getElem?_cons_succ]; rfl) (by kernel_rfl) (by kernel_rfl) (by kernel_rfl) (by exact fun _ _ _ h => h) (yieldsIf_load_mid (by rfl) _ _ rfl _ _ rfl _ _ (fun _ h => h.1) Try.underlying23 rfl (arrL_len _)) hS ?_
  refine wpAnyH_take (i := 4) (by simp only [List.getElem?_toArray, List.getElem?_cons_zero, List.getElem?_cons_succ]; rfl) (by kernel_rfl) (by kernel_rfl) (by kernel_rfl) (by exact fun _ _ _ h => h) (yieldsIf_load_mid (by rfl) _ _ rfl _ _ rfl _ _ (fun _ h => h.2.1) Try.underlying23 rfl (arrL_len _)) hS ?_
  refine wpAnyH_take (i := 5) (v := ?_) (by simp only [List.getElem?_toArray, List.getElem?_cons_zero, List.getElem?_cons_succ]; rfl) (by kernel_rfl) (by kernel_rfl) (by kernel_rfl) (by exact fun _ _ _ h => h) (Or.inl ⟨by rfl, ?_⟩) hS ?_
  rotate_left
  · intro w' _
    go_simp
    try with_reducible rfl
  refine wpAnyH_ready (rs := [2]) (by kernel_rfl) (by simp) ?_
  refine AllReadyH.cons (by simp only [List.getElem?_toArray, List.getElem?_cons_zero, List.getElem?_cons_succ]; rfl) (fun K' hK => ?_) AllReadyH.nil
  go_simp
  refine (equal_any _ F G HF.out HG.out b Hb.out).mono ?_
  rintro _ w4 ⟨rfl, hbw4⟩
  have Hw4 : Hid (EqT w w4 F G C) := H3.out.step hbw4
  refine hK.out _ _ Hw4.out.ranges (fun hS => ?_)
  clear hK K' hbw4
  refine wpAnyH_take (i := 6) (v := ?_) (by simp only [List.getElem?_toArray, List.getElem?_cons_zero, List.getElem?_cons_succ]; rfl) (by kernel_rfl) (by kernel_rfl) (by kernel_rfl) (by exact fun _ _ _ h => h) (Or.inl ⟨by rfl, ?_⟩) hS ?_
  rotate_left
  · intro w' _
    go_simp
    try with_reducible rfl
  refine wpAnyH_take (i := 7) (v := ?_) (by simp only [List.getElem?_toArray, List.getElem?_cons_zero, List.getElem?_cons_succ]; rfl) (by kernel_rfl) (by kernel_rfl) (by kernel_rfl) (by exact fun _ _ _ h => h) (Or.inl ⟨by rfl, ?_⟩) hS ?_
  rotate_left
  · intro w' _
    go_simp
    try with_reducible rfl
  refine wpAnyH_take (i := 8) (by simp only [List.getElem?_toArray, List.getElem?_cons_zero, List.getElem?_cons_succ]; rfl) (by kernel_rfl) (by kernel_rfl) (by kernel_rfl) (by exact fun _ _ _ h => h) (yieldsIf_load_mid (by kernel_rfl) _ _ rfl _ _ rfl _ _ (fun _ h => h.1) Try.underlying23 rfl (arrL_len _)) hS ?_
  refine wpAnyH_take (i := 9) (by simp only [List.getElem?_toArray, List.getElem?_cons_zero, List.getElem?_cons_succ]; rfl) (by kernel_rfl) (by kernel_rfl) (by kernel_rfl) (by exact fun _ _ _ h => h) (yieldsIf_load_mid (by kernel_rfl) _ _ rfl _ _ rfl _ _ (fun _ h => h.1) Try.underlying23 rfl (arrL_len _)) hS ?_
  refine wpAnyH_ready (rs := [10]) (by kernel_rfl) (by simp) ?_
  refine AllReadyH.cons (by simp only [List.getElem?_toArray, List.getElem?_cons_zero, List.getElem?_cons_succ]; rfl) (fun K' hK => ?_) AllReadyH.nil
  rw [if_pos (by kernel_rfl)]
  go_simp
  refine (equal_any _ F F HF.out HF.out true (by rw [(ap_zero F F 32).2 (fun _ _ => rfl)]; rfl)).mono ?_
  rintro _ w5 ⟨rfl, hbw5⟩
  have Hw5 : Hid (EqT w w5 F G C) := Hw4.out.step hbw5
  refine hK.out _ _ Hw5.out.ranges (fun hS => ?_)
  clear hK K' hbw5
  refine wpAnyH_take (i := 11) (v := ?_) (by simp only [List.getElem?_toArray, List.getElem?_cons_zero, List.getElem?_cons_succ]; rfl) (by kernel_rfl) (by kernel_rfl) (by kernel_rfl) (by exact fun _ _ _ h => h) (Or.inl ⟨by rfl, ?_⟩) hS ?_
  rotate_left
  · intro w' _
    go_simp
    try with_reducible rfl
  refine wpAnyH_take (i := 12) (v := ?_) (by simp only [List.getElem?_toArray, List.getElem?_cons_zero, List.getElem?_cons_succ]; rfl) (by kernel_rfl) (by kernel_rfl) (by kernel_rfl) (by exact fun _ _ _ h => h) (Or.inl ⟨by rfl, ?_⟩) hS ?_
  rotate_left
  · intro w' _
    go_simp
    try with_reducible rfl
  refine wpAnyH_take (i := 13) (by simp only [List.getElem?_toArray, List.getElem?_cons_zero, List.getElem?_cons_succ]; rfl) (by kernel_rfl) (by kernel_rfl) (by kernel_rfl) (by exact fun _ _ _ h => h) (yieldsIf_load_mid (by kernel_rfl) _ _ rfl _ _ rfl _ _ (fun _ h => h.1) Try.underlying23 rfl (arrL_len _)) hS ?_
  refine wpAnyH_take (i := 14) (by simp only [List.getElem?_toArray, List.getElem?_cons_zero, List.getElem?_cons_succ]; rfl) (by kernel_rfl) (by kernel_rfl) (by kernel_rfl) (by exact fun _ _ _ h => h) (yieldsIf_load_mid (by kernel_rfl) _ _ rfl _ _ rfl _ _ (fun _ h => h.2.2) Try.underlying23 rfl (arrL_len _)) hS ?_
  refine wpAnyH_ready (rs := [15]) (by kernel_rfl) (by simp) ?_
  refine AllReadyH.cons (by simp only [List.getElem?_toArray, List.getElem?_cons_zero, List.getElem?_cons_succ]; rfl) (fun K' hK => ?_) AllReadyH.nil
  rw [if_pos (by kernel_rfl)]
  go_simp
  refine (equal_any _ F C HF.out HC.out false (by simp [HN.out.1])).mono ?_
  rintro _ w6 ⟨rfl, hbw6⟩
  have Hw6 : Hid (EqT w w6 F G C) := Hw5.out.step hbw6
  refine hK.out _ _ Hw6.out.ranges (fun hS => ?_)
  clear hK K' hbw6
  refine wpAnyH_take (i := 16) (v := ?_) (by simp only [List.getElem?_toArray, List.getElem?_cons_zero, List.getElem?_cons_succ]; rfl) (by kernel_rfl) (by kernel_rfl) (by kernel_rfl) (by exact fun _ _ _ h => h) (Or.inl ⟨by kernel_rfl, ?_⟩) hS ?_
  rotate_left
  · intro w' _
    go_simp
    try with_reducible rfl
  refine wpAnyH_take (i := 17) (v := ?_) (by simp only [List.getElem?_toArray, List.getElem?_cons_zero, List.getElem?_cons_succ]; rfl) (by kernel_rfl) (by kernel_rfl) (by kernel_rfl) (by exact fun _ _ _ h => h) (Or.inl ⟨by rfl, ?_⟩) hS ?_
  rotate_left
  · intro w' _
    go_simp
    try with_reducible rfl
  refine wpAnyH_take (i := 18) (v := ?_) (by simp only [List.getElem?_toArray, List.getElem?_cons_zero, List.getElem?_cons_succ]; rfl) (by kernel_rfl) (by kernel_rfl) (by kernel_rfl) (by exact fun _ _ _ h => h) (Or.inl ⟨by rfl, ?_⟩) hS ?_
  rotate_left
  · intro w' _
    go_simp
    try with_reducible rfl
  refine wpAnyH_take (i := 19) (by simp only [List.getElem?_toArray, List.getElem?_cons_zero, List.getElem?_cons_succ]; rfl) (by kernel_rfl) (by kernel_rfl) (by kernel_rfl) (by exact fun _ _ _ h => h) (yieldsIf_load_mid (by kernel_rfl) _ _ rfl _ _ rfl _ _ (fun _ h => h.2.2) Try.underlying23 rfl (arrL_len _)) hS ?_
  refine wpAnyH_take (i := 20) (by simp only [List.getElem?_toArray, List.getElem?_cons_zero, List.getElem?_cons_succ]; rfl) (by kernel_rfl) (by kernel_rfl) (by kernel_rfl) (by exact fun _ _ _ h => h) (yieldsIf_load_mid (by kernel_rfl) _ _ rfl _ _ rfl _ _ (fun _ h => h.1) Try.underlying23 rfl (arrL_len _)) hS ?_
  refine wpAnyH_ready (rs := [21]) (by kernel_rfl) (by simp) ?_
  refine AllReadyH.cons (by simp only [List.getElem?_toArray, List.getElem?_cons_zero, List.getElem?_cons_succ]; rfl) (fun K' hK => ?_) AllReadyH.nil
  rw [if_pos (by kernel_rfl)]
  go_simp
  refine (equal_any _ C F HC.out HF.out false (by simp [HN.out.2])).mono ?_
  rintro _ w7 ⟨rfl, hbw7⟩
  have Hw7 : Hid (EqT w w7 F G C) := Hw6.out.step hbw7
  refine hK.out _ _ Hw7.out.ranges (fun hS => ?_)
  clear hK K' hbw7
  refine wpAnyH_take (i := 22) (v := ?_) (by simp only [List.getElem?_toArray, List.getElem?_cons_zero, List.getElem?_cons_succ]; rfl) (by kernel_rfl) (by kernel_rfl) (by kernel_rfl) (by exact fun _ _ _ h => h) (Or.inl ⟨by kernel_rfl, ?_⟩) hS ?_
  rotate_left
  · intro w' _
    go_simp
    try with_reducible rfl
  refine wpAnyH_take (i := 23) (v := ?_) (by simp only [List.getElem?_toArray, List.getElem?_cons_zero, List.getElem?_cons_succ]; rfl) (by kernel_rfl) (by kernel_rfl) (by kernel_rfl) (by exact fun _ _ _ h => h) (Or.inl ⟨by rfl, ?_⟩) hS ?_
  rotate_left
  · intro w' _
    go_simp
    try with_reducible rfl
  refine wpAnyH_take (i := 24) (v := ?_) (by simp only [List.getElem?_toArray, List.getElem?_cons_zero, List.getElem?_cons_succ]; rfl) (by kernel_rfl) (by kernel_rfl) (by kernel_rfl) (by exact fun _ _ _ h => h) (Or.inl ⟨by rfl, ?_⟩) hS ?_
  rotate_left
  · intro w' _
    go_simp
    try with_reducible rfl
  refine wpAnyH_done (by kernel_rfl) ?_ _
  have HZ : Hid (Below w.heap.size w w7) := Hw7.out.below
  clear hS eqh
  go_wp2_with fail
  go_ret
  exact ⟨rfl, HZ.out⟩
end Go.Proofs.Ytleabfmlokjllaa
