import Derived.Test.YtepeolbbplodfaaGreatDoorPLstq
import Derived.Test.YtepeolbbplodfaaGreatDoorAptq
import Derived.Test.YtepeolbbplodfaaGreatDoorRwq
import Derived.Defers
import Derived.Recover
import Derived.Laws.Pointers
import Derived.Laws.BitsAllLaws
import Derived.Test.YtepeolbbplodfaaGreatDoorRlq
/-
  Bytes handed in, bytes handed out.
-/
namespace Go.Proofs.YtepeolbbplodfaaGreatDoor
open Go.RowKit

/-- WHAT IS HANDED OUT: bytes in a new block, or nil; all that was there is as it was. -/
structure Ans (w w' : World) (v : Value) (s : List Nat) : Prop where
  own : w'.ownsRow w.heap.size 5 1 v s.length (bv s)
  byt : ∀ x ∈ s, x < 256
  len : s.length ≤ 140737488351232
  below : Below w.heap.size w w'
theorem Ans.view {w w' : World} {v : Value} {s : List Nat} (h : Ans w w' v s) : ∃ a g c, v = .slice a s.length c ∧ Vw w' a g 0 s ∧ s.length ≤ c ∧ (a = none → c = 0) := by
  rcases h.own.2 with ⟨rfl, h0⟩ | ⟨g, cap, cur, rfl, hb, hg, h1, h2, h3, h4⟩
  · exact ⟨none, 0, 0, by rw [h0], ⟨fun k => by omega, fun i hi => by omega, fun i hi => by omega, by omega⟩, by omega, fun _ => rfl⟩
  · refine ⟨_, g, cap, rfl, ⟨fun _ => rfl, fun i hi => ?_, fun i hi => ?_, by have := h.len; omega⟩, h1, fun z => by cases z⟩
    · have := h.own.cells (g := g) rfl i _ (bv_at hi)
      rw [show (⟨g, 0, none⟩ : Addr).add i = ⟨g, 0 + i, none⟩ by unfold Addr.add; split <;> simp_all] at this
      exact this
    · have := gd_lt h.byt i
      omega
theorem Ans.vb {w w' : World} {v : Value} {s : List Nat} (h : Ans w w' v s) : Vb w' v s := by
  obtain ⟨a, g, c, e, hv, h1, h2⟩ := h.view
  exact ⟨a, g, 0, c, e, hv, h1, h2, h.len⟩
theorem Ans.str {w w' : World} {v : Value} {s : List Nat} (h : Ans w w' v s) : Str w' (fun i => w.heap.size ≤ i ∧ i < w'.heap.size) v s := ⟨own_base h.own, fun g hg => h.own.lt g hg, ⟨by have := h.len; omega, h.byt⟩⟩
theorem Ans.form {w w' : World} {v : Value} {s : List Nat} (h : Ans w w' v s) : ∃ a c, v = .slice a s.length c := own_slice h.own
theorem ans_nil {w w' : World} (h : Below w.heap.size w w') : Ans w w' (.slice none 0 0) [] := ⟨⟨rfl, Or.inl ⟨rfl, rfl⟩⟩, fun x hx => (by cases hx), by simp, h⟩

/-- A NEW ROW OF n BYTES, the first block behind what was there; all that was there is as it was. -/
structure NewRow (w w' : World) (n : Nat) (Y : Nat → Nat) : Prop where
  row : w'.rowIs w.heap.size 5 n (fun i => .int .u8 ((Y i : Nat) : Int))
  below : Below w.heap.size w w'
  size : w'.heap.size = w.heap.size + 1
theorem NewRow.made (w : World) (n : Nat) : NewRow w (w.alloc (.cells (madeCells #[.int .u8 0] n) 5)) n (fun _ => 0) :=
  ⟨World.rowIs_made w _ n 5, (Below.refl _ _).alloc (Nat.le_refl _) _, by simp⟩
theorem NewRow.set {w w' : World} {n : Nat} {Y : Nat → Nat} (h : NewRow w w' n Y) (i : Nat) (v : Nat) : NewRow w (w'.setCell ⟨w.heap.size, i, none⟩ (.int .u8 (v : Nat))) n (fun j => if j = i then v else Y j) :=
  ⟨(h.row.set i _).congr (fun j _ => by split <;> rfl), h.below.setCell (Nat.le_refl _) _, by simp [h.size]⟩
theorem below_drewN {B : Nat} {w w' : World} (h : Below B w w') (q : Nat) : Below B w (w'.drewN q) := ⟨h.os, h.tape, h.output, h.size, fun k hk => h.block k hk⟩
theorem NewRow.drewN {w w' : World} {n : Nat} {Y : Nat → Nat} (h : NewRow w w' n Y) (q : Nat) : NewRow w (w'.drewN q) n Y := ⟨h.row.of_block rfl, below_drewN h.below q, h.size⟩
theorem NewRow.drew {w w' : World} {n : Nat} {Y : Nat → Nat} (h : NewRow w w' n Y) : NewRow w w'.drew n Y := ⟨h.row.of_block rfl, below_drewN h.below 1, h.size⟩
theorem NewRow.congr {w w' : World} {n : Nat} {Y X : Nat → Nat} (h : NewRow w w' n Y) (e : ∀ i, i < n → Y i = X i) : NewRow w w' n X :=
  ⟨h.row.congr (fun i hi => by rw [e i hi]), h.below, h.size⟩
theorem NewRow.ans {w w' : World} {n : Nat} {Y : Nat → Nat} (h : NewRow w w' n Y) (hb : ∀ i, i < n → Y i < 256) (hn : n ≤ 140737488351232) : Ans w w' (.slice (some ⟨w.heap.size, 0, none⟩) n n) (lst n Y) := by
  refine ⟨?_, fun x hx => ?_, by rw [lst_len]; exact hn, h.below⟩
  · rw [lst_len]
    refine row_own h.row (Nat.le_refl _) (Nat.le_refl _) (by unfold maxLen; omega) _ (by rw [bv_len, lst_len]) (fun i hi => ?_)
    rw [bv_at (by rw [lst_len]; exact hi), lst_gd hi]
  · unfold lst at hx
    obtain ⟨i, hi, rfl⟩ := List.mem_map.1 hx
    exact hb i (by simpa using hi)
end Go.Proofs.YtepeolbbplodfaaGreatDoor

/-
  path.isPath, path.Pack.
-/
namespace Go.Proofs.YtepeolbbplodfaaGreatDoor
open Go.RowKit

set_option maxRecDepth 100000 in
set_option maxHeartbeats 800000 in
theorem isPath_any (w : World) (a : Option Addr) (b off c : Nat) (s : List Nat) (hv : Vw w a b off s) :
    Calls Tryz.prog 157 #[.slice a s.length c] w fun e w' => e = .returned (.bool (decide (IsP s))) ∧ w' = w := by
  have hn := hv.len
  by_cases hl : 64 < s.length
  · have e0 : decide (IsP s) = false := decide_eq_false (fun h => by have := h.1; omega)
    rw [e0]
    generalize s.length = n at *
    go_enter Tryz.func157, Tryz.ntmps157
    go_wp2_with fail
    go_ret
    exact ⟨rfl, rfl⟩
  · have HV : Hid (Vw w a b off s) := hv
    obtain ⟨n, en⟩ : ∃ n, n = s.length := ⟨_, rfl⟩
    have HE : Hid (n = s.length) := en
    rw [← en] at hn hl ⊢
    clear hv en
    go_enter Tryz.func157, Tryz.ntmps157
    go_wp2_with fail
    go_loopg [10] n (fun g i wr => ∃ k : Nat, k ≤ n ∧ g = n - k ∧ i = .int .i64 k ∧ (∀ i, i < k → gd s i ≤ 15) ∧ wr = w)
    case atStart => exact ⟨0, Nat.zero_le _, rfl, rfl, fun i hi => absurd hi (by omega), rfl⟩
    case round =>
      obtain ⟨k, hk, rfl, rfl, hs, rfl⟩ := hrel
      have HS : Hid (∀ i, i < k → gd s i ≤ 15) := hs
      clear hs
      by_cases hkn : k < n
      · have ek : k < s.length := by rw [← HE.out]; exact hkn
        obtain rfl := HV.out.at_ (by omega)
        have c1 := HV.out.cell k ek
        have i1 : (k : Int) < (n : Int) := by omega
        by_cases q : 15 < gd s k
        · have HQ : Hid (15 < gd s k) := q
          have q' : (15 : Int) < ((gd s k : Nat) : Int) := by omega
          generalize gd s k = z at c1 q q'
          clear ek
          go_wp2_with fail
          go_ret
          have e0 : decide (IsP s) = false := decide_eq_false (fun h => by have := h.2 k (by have := HE.out; omega); have := HQ.out; omega)
          exact ⟨by rw [e0]; rfl, rfl⟩
        · have HQ : Hid (gd s k ≤ 15) := by show gd s k ≤ 15; omega
          have q' : ¬ (15 : Int) < ((gd s k : Nat) : Int) := by omega
          generalize gd s k = z at c1 q q'
          clear ek
          go_wp2_with fail
          go_roundg (n - (k + 1))
          case measure => omega
          case rel => exact ⟨k + 1, by omega, rfl, by go_num, fun i hi => by by_cases ee : i = k; (subst ee; exact HQ.out); exact HS.out i (by omega), rfl⟩
      · have : k = n := by omega
        subst this
        go_wp2_with fail
        go_ret
        have e0 : decide (IsP s) = true := decide_eq_true ⟨by have := HE.out; omega, fun i hi => HS.out i (by have := HE.out; omega)⟩
        exact ⟨by rw [e0]; rfl, rfl⟩
theorem u8_same (x : Int) (h0 : 0 ≤ x) (h1 : x ≤ 255) : IntKind.u8.wrap x = x := by simp [IntKind.wrap, IntKind.bits, IntKind.signed]; omega

/-- what stands in the answer ahead of the loop's round k -/
def pkZ (leaf : Bool) (s : List Nat) (k i : Nat) : Nat := if i < 1 + k then pkY leaf s i else 0
theorem pkZ_step {w wr : World} {N k : Nat} {leaf : Bool} {s : List Nat} (h : NewRow w wr N (pkZ leaf s k)) {x : Int} (hx : x = ((pkY leaf s (1 + k) : Nat) : Int)) : NewRow w (wr.setCell ⟨w.heap.size, 1 + k, none⟩ (.int .u8 x)) N (pkZ leaf s (k + 1)) := by
  subst hx
  refine (h.set (1 + k) _).congr (fun i _ => ?_)
  unfold pkZ
  by_cases e : i = 1 + k
  · subst e
    rw [if_pos rfl, if_pos (by omega)]
  · rw [if_neg e]
    by_cases q : i < 1 + k
    · rw [if_pos q, if_pos (by omega)]
    · rw [if_neg q, if_neg (by omega)]
theorem pkZ_first {w wr : World} {N : Nat} {leaf : Bool} {s : List Nat} {Y : Nat → Nat} (h : NewRow w wr N Y) (h0 : Y 0 = pkY leaf s 0) (h1 : ∀ i, 0 < i → Y i = 0) : NewRow w wr N (pkZ leaf s 0) := h.congr (fun i _ => by
  unfold pkZ
  by_cases e : i = 0
  · subst e; rw [if_pos (by omega)]; exact h0
  · rw [if_neg (by omega)]; exact h1 i (by omega))
theorem new_first (w : World) (N : Nat) : NewRow w (w.alloc (.cells ((madeCells #[.int .u8 0] N).setIfInBounds 0 (.int .u8 32)) 5)) N (fun j => if j = 0 then 32 else 0) := by
  have e : (w.alloc (.cells (madeCells #[.int .u8 0] N) 5)).setCell ⟨w.heap.size, 0, none⟩ (.int .u8 32) = w.alloc (.cells ((madeCells #[.int .u8 0] N).setIfInBounds 0 (.int .u8 32)) 5) := World.setCell_alloc_new _ _ _ _
  rw [← e]
  exact (NewRow.made w N).set 0 32
end Go.Proofs.YtepeolbbplodfaaGreatDoor

/-
  path.Pack of an odd path.
-/
namespace Go.Proofs.YtepeolbbplodfaaGreatDoor
open Go.RowKit

set_option maxRecDepth 100000 in
set_option maxHeartbeats 1600000 in
theorem pack_1f (w : World) (a : Option Addr) (b off c : Nat) (s : List Nat) (hv : Vw w a b off s) (hc : s.length ≤ c) (hp : IsP s) (ho : s.length % 2 = 1) :
    Calls Tryz.prog 150 #[.slice a s.length c, .bool false] w fun e w' => ∃ v, e = .returned (.tuple #[v, .int .i64 0]) ∧ Ans w w' v (pkL false s) := by
  have K := isPath_any w a b off c s hv
  rw [decide_eq_true hp] at K
  have HB : Hid (∀ i, gd s i ≤ 15) := fun i => by
    by_cases q : i < s.length
    · exact hp.2 i q
    · rw [gd_out (by omega)]; decide
  have hl := hp.1
  have HO : Hid (s.length % 2 = 1) := ho
  have HV : Hid (View w a b off s.length (fun i => ((gd s (0 + i) : Nat) : Int))) := hv.congr (fun i _ => by rw [Nat.zero_add])
  have HP : Hid (IsP s ∧ pkL false s = lst (1 + s.length / 2) (pkY false s) ∧ pkY false s 0 = 0 + (16 + gd s 0)) := ⟨hp, rfl, by rw [pk_first, if_neg (show ¬ s.length % 2 = 0 by omega)]; rfl⟩
  have e1 : ((s.length : Int) % 2 == 1) = true := by simp; omega
  clear hv hp
  obtain ⟨n, en⟩ : ∃ n, n = s.length := ⟨_, rfl⟩
  have HE : Hid (n = s.length) := en
  rw [← en] at hl HV K e1 ho hc ⊢
  clear en
  have hmk := run_make_row' (P := Tryz.prog) 33 5 (.int .u8 0) 1 Tryz.underlying33 Tryz.info5 rfl .i64 .i64 (1 + n / 2) (by omega) (by omega)
  rw [show ((1 + n / 2 : Nat) : Int) = 1 + (n : Int) / 2 by omega] at hmk
  obtain rfl := HV.out.at_ (by omega)
  have hlt := HV.out.lt (by omega)
  obtain ⟨a', ha'⟩ : ∃ a', a' = behind (some (⟨b, off, none⟩ : Addr)) c 1 := ⟨_, rfl⟩
  have HW : Hid (View w a' b (off + 1) (n - 1) (fun i => ((gd s (1 + i) : Nat) : Int))) := by
    refine ⟨fun h => ?_, fun i hi => ?_, fun i hi => ?_, by omega⟩
    · rw [ha']
      unfold behind
      rw [if_neg (by omega)]
      rfl
    · have := HV.out.cell (1 + i) (by omega)
      rw [Nat.zero_add] at this
      rw [Nat.add_assoc]
      exact this
    · have := HB.out (1 + i)
      omega
  have j1 : ∀ u, (Instr.slice 33 (.slice (some ⟨b, off, none⟩) n c) (some (.int .i64 1)) none none).run Tryz.prog u = .ok (.slice a' (n - 1) (c - 1)) u := fun u => by rw [ha']; exact slice_from _ n c 1 (by omega) u
  clear ha'
  have HK : Hid (Calls Tryz.prog 157 #[.slice (some ⟨b, off, none⟩) n c] w fun e w' => e = .returned (.bool true) ∧ w' = w) := K
  clear K
  go_enter Tryz.func150, Tryz.ntmps150
  go_wp2_with fail
  refine HK.out.mono ?_
  rintro e w1 ⟨rfl, rfl⟩
  go_wp2_with fail
  clear hmk
  have NR : NewRow w1 (w1.alloc (.cells (madeCells #[.int .u8 0] (1 + n / 2)) 5)) (1 + n / 2) (fun _ => 0) := NewRow.made w1 (1 + n / 2)
  obtain ⟨w2, hw2⟩ : ∃ x, x = (w1.alloc (.cells (madeCells #[.int .u8 0] (1 + n / 2)) 5)) := ⟨_, rfl⟩
  rw [← hw2] at NR ⊢
  skip
  clear hw2
  have s0 : w2.cell? ⟨w1.heap.size, 0, none⟩ = some (.int .u8 0) := NR.row.cell (i := 0) (by omega)
  have f0 := NR.row.frozen 0
  have HR0 : Hid (NewRow w1 w2 (1 + n / 2) (fun _ => 0)) := NR
  have c0 : w2.cell? ⟨b, off, none⟩ = some (.int .u8 ((gd s 0 : Nat) : Int)) := (NR.below.cell (p := ⟨b, off, none⟩) hlt).trans (HV.out.cell 0 (by omega))
  have z0 : gd s 0 ≤ 15 := HB.out 0
  obtain ⟨x, hx⟩ : ∃ x, x = gd s 0 := ⟨_, rfl⟩
  have HX : Hid (x = gd s 0) := hx
  rw [← hx] at c0 z0
  have q1 := u8_same (16 + (x : Int)) (by omega) (by omega)
  have q2 := u8_same (0 + (16 + (x : Int))) (by omega) (by omega)
  have i1 : (0 : Int) < (n : Int) := by omega
  have i1b : 0 < n := by omega
  have i3 : (0 : Int) < 1 + (n : Int) / 2 := by omega
  have i3b : 0 < 1 + n / 2 := by omega
  clear NR hx hlt
  go_region_law (fail)
  all_goals (
    have NR : NewRow w1 ((w2.setCell ⟨w1.heap.size, 0, none⟩ (.int .u8 (16 + (x : Int)))).drew) (1 + n / 2) (pkZ false s 0) := by
      have e := (HR0.out.set 0 (0 + (16 + x))).drew
      rw [show ((0 + (16 + x) : Nat) : Int) = 16 + (x : Int) by omega] at e
      refine pkZ_first e ?_ (fun i hi => ?_)
      · rw [HP.out.2.2, ← HX.out]
        rfl
      · show (if i = 0 then _ else 0) = 0
        rw [if_neg (by omega)]
    obtain ⟨w3, hw3⟩ : ∃ z, z = (w2.setCell ⟨w1.heap.size, 0, none⟩ (.int .u8 (16 + (x : Int)))).drew := ⟨_, rfl⟩
    rw [← hw3] at NR ⊢
    clear hw3 s0 f0 c0 HR0
    have HN : Hid (NewRow w1 w3 (1 + n / 2) (pkZ false s 0)) := NR
    clear NR
    go_wp2_with fail
    go_loopg [39] (n / 2) (fun g i wr => ∃ k : Nat, k ≤ n / 2 ∧ g = n / 2 - k ∧ i = .int .i64 k ∧ NewRow w1 wr (1 + n / 2) (pkZ false s k))
    case atStart => exact ⟨0, Nat.zero_le _, rfl, rfl, HN.out⟩
    case round =>
      obtain ⟨k, hk, rfl, rfl, hR⟩ := hrel
      have HR : Hid (NewRow w1 wr (1 + n / 2) (pkZ false s k)) := hR
      clear HN
      by_cases hkn : k < n / 2
      · have k1 : 2 * k < (n - 1) := by omega
        have k2 : 2 * k + 1 < (n - 1) := by omega
        obtain rfl := HW.out.at_ (by omega)
        have hlt := HW.out.lt (by omega)
        have c1 : wr.cell? ⟨b, off + 1 + (2 * k), none⟩ = some (.int .u8 ((gd s (1 + 2 * k) : Nat) : Int)) := (hR.below.cell (p := ⟨b, off + 1 + (2 * k), none⟩) hlt).trans (HW.out.cell (2 * k) k1)
        have c2 : wr.cell? ⟨b, off + 1 + (2 * k + 1), none⟩ = some (.int .u8 ((gd s (1 + (2 * k + 1)) : Nat) : Int)) := (hR.below.cell (p := ⟨b, off + 1 + (2 * k + 1), none⟩) hlt).trans (HW.out.cell (2 * k + 1) k2)
        have z1 : gd s (1 + 2 * k) ≤ 15 := HB.out _
        have z2 : gd s (1 + (2 * k + 1)) ≤ 15 := HB.out _
        have s1 := hR.row.cell (i := 1 + k) (by omega)
        have f1 := hR.row.frozen (1 + k)
        have HY : Hid (∀ x : Int, x = 16 * ((gd s (1 + 2 * k) : Nat) : Int) + ((gd s (1 + (2 * k + 1)) : Nat) : Int) → x = ((pkY false s (1 + k) : Nat) : Int)) := fun x hx => by
          rw [hx, pk_next, HO.out]
          rw [show 1 + (2 * k + 1) = 1 + 2 * k + 1 by omega]
          omega
        obtain ⟨zz, hzz⟩ : ∃ zz, zz = pkZ false s k (1 + k) := ⟨_, rfl⟩
        rw [← hzz] at s1
        clear hzz
        obtain ⟨x, hx⟩ : ∃ x, x = gd s (1 + 2 * k) := ⟨_, rfl⟩
        obtain ⟨y, hy⟩ : ∃ y, y = gd s (1 + (2 * k + 1)) := ⟨_, rfl⟩
        rw [← hx] at c1 z1 HY
        rw [← hy] at c2 z2 HY
        clear hx hy
        have q1 := u8_same (16 * (x : Int)) (by omega) (by omega)
        have q2 := u8_same (16 * (x : Int) + (y : Int)) (by omega) (by omega)
        have o1 : (0 : Int) ≤ 2 * (k : Int) := by omega
        have o2 : (0 : Int) ≤ 2 * (k : Int) + 1 := by omega
        have o3 : IntKind.i64.wrap (2 * (k : Int)) = 2 * (k : Int) := by rw [IntKind.wrap_i64]; omega
        have o3b : IntKind.i64.wrap (2 * (k : Int) + 1) = 2 * (k : Int) + 1 := by rw [IntKind.wrap_i64]; omega
        have o3c : IntKind.i64.wrap (1 + (k : Int)) = 1 + (k : Int) := by rw [IntKind.wrap_i64]; omega
        have o4 : (2 * (k : Int)).toNat = 2 * k := by omega
        have o5 : (2 * (k : Int) + 1).toNat = 2 * k + 1 := by omega
        have o6 : (1 + (k : Int)).toNat = 1 + k := by omega
        have i1 : 2 * (k : Int) < (((n - 1) : Nat) : Int) := by omega
        have i2 : 2 * (k : Int) + 1 < (((n - 1) : Nat) : Int) := by omega
        have i3 : 1 + (k : Int) < ((1 + n / 2 : Nat) : Int) := by omega
        have i4 : (0 : Int) ≤ 1 + (k : Int) := by omega
        have i5 : (k : Int) < (((n - 1) : Nat) : Int) / 2 := by omega
        have i6 : (k : Int) < (n : Int) / 2 := by omega
        have hbn : b ≠ w1.heap.size := by omega
        clear hR hlt k1 k2
        go_wp2_with fail
        go_region_held3 (fun w' => w'.cell? ⟨b, off + 1 + (2 * k), none⟩ = some (.int .u8 (x : Int)) ∧ w'.cell? ⟨b, off + 1 + (2 * k + 1), none⟩ = some (.int .u8 (y : Int))) (first | (refine ⟨?_, ?_⟩ <;> (rw [World.cell?_drew, World.cell?_setCell_other _ _ _ _ (fun h => hbn (congrArg Addr.block h).symm)]; assumption)) | go_keep) (fail)
        have R := pkZ_step HR.out (HY.out _ rfl)
        go_wp2_with fail
        go_roundg (n / 2 - (k + 1))
        case measure => omega
        case rel => exact ⟨k + 1, by omega, rfl, by go_num, R.drew⟩
      · have : k = n / 2 := by omega
        subst this
        have i5 : ¬ ((n / 2 : Nat) : Int) < (((n - 1) : Nat) : Int) / 2 := by omega
        go_wp2_with fail
        go_ret2
        have r : NewRow w1 wr (1 + n / 2) (pkY false s) := HR.out.congr (fun i hi => by unfold pkZ; rw [if_pos hi])
        refine ⟨_, rfl, ?_⟩
        rw [HP.out.2.1, ← HE.out]
        exact r.ans (fun i _ => pkY_lt false HP.out.1.2 i) (by omega))

set_option maxRecDepth 100000 in
set_option maxHeartbeats 1600000 in
theorem pack_1t (w : World) (a : Option Addr) (b off c : Nat) (s : List Nat) (hv : Vw w a b off s) (hc : s.length ≤ c) (hp : IsP s) (ho : s.length % 2 = 1) :
    Calls Tryz.prog 150 #[.slice a s.length c, .bool true] w fun e w' => ∃ v, e = .returned (.tuple #[v, .int .i64 0]) ∧ Ans w w' v (pkL true s) := by
  have K := isPath_any w a b off c s hv
  rw [decide_eq_true hp] at K
  have HB : Hid (∀ i, gd s i ≤ 15) := fun i => by
    by_cases q : i < s.length
    · exact hp.2 i q
    · rw [gd_out (by omega)]; decide
  have hl := hp.1
  have HO : Hid (s.length % 2 = 1) := ho
  have HV : Hid (View w a b off s.length (fun i => ((gd s (0 + i) : Nat) : Int))) := hv.congr (fun i _ => by rw [Nat.zero_add])
  have HP : Hid (IsP s ∧ pkL true s = lst (1 + s.length / 2) (pkY true s) ∧ pkY true s 0 = 32 + (16 + gd s 0)) := ⟨hp, rfl, by rw [pk_first, if_neg (show ¬ s.length % 2 = 0 by omega)]; rfl⟩
  have e1 : ((s.length : Int) % 2 == 1) = true := by simp; omega
  clear hv hp
  obtain ⟨n, en⟩ : ∃ n, n = s.length := ⟨_, rfl⟩
  have HE : Hid (n = s.length) := en
  rw [← en] at hl HV K e1 ho hc ⊢
  clear en
  have hmk := run_make_row' (P := Tryz.prog) 33 5 (.int .u8 0) 1 Tryz.underlying33 Tryz.info5 rfl .i64 .i64 (1 + n / 2) (by omega) (by omega)
  rw [show ((1 + n / 2 : Nat) : Int) = 1 + (n : Int) / 2 by omega] at hmk
  have s0 : (w.alloc (.cells (madeCells #[.int .u8 0] (1 + n / 2)) 5)).cell? ⟨w.heap.size, 0, none⟩ = some (.int .u8 0) := (NewRow.made w (1 + n / 2)).row.cell (i := 0) (by omega)
  have f0 : (w.alloc (.cells (madeCells #[.int .u8 0] (1 + n / 2)) 5)).frozen? ⟨w.heap.size, 0, none⟩ = false := (NewRow.made w (1 + n / 2)).row.frozen 0
  obtain rfl := HV.out.at_ (by omega)
  have hlt := HV.out.lt (by omega)
  obtain ⟨a', ha'⟩ : ∃ a', a' = behind (some (⟨b, off, none⟩ : Addr)) c 1 := ⟨_, rfl⟩
  have HW : Hid (View w a' b (off + 1) (n - 1) (fun i => ((gd s (1 + i) : Nat) : Int))) := by
    refine ⟨fun h => ?_, fun i hi => ?_, fun i hi => ?_, by omega⟩
    · rw [ha']
      unfold behind
      rw [if_neg (by omega)]
      rfl
    · have := HV.out.cell (1 + i) (by omega)
      rw [Nat.zero_add] at this
      rw [Nat.add_assoc]
      exact this
    · have := HB.out (1 + i)
      omega
  have j1 : ∀ u, (Instr.slice 33 (.slice (some ⟨b, off, none⟩) n c) (some (.int .i64 1)) none none).run Tryz.prog u = .ok (.slice a' (n - 1) (c - 1)) u := fun u => by rw [ha']; exact slice_from _ n c 1 (by omega) u
  clear ha'
  have HK : Hid (Calls Tryz.prog 157 #[.slice (some ⟨b, off, none⟩) n c] w fun e w' => e = .returned (.bool true) ∧ w' = w) := K
  clear K
  go_enter Tryz.func150, Tryz.ntmps150
  go_wp2_with fail
  refine HK.out.mono ?_
  rintro e w1 ⟨rfl, rfl⟩
  go_wp2_with fail
  clear hmk
  have NR : NewRow w1 (w1.alloc (.cells ((madeCells #[.int .u8 0] (1 + n / 2)).setIfInBounds 0 (.int .u8 32)) 5)) (1 + n / 2) (fun j => if j = 0 then 32 else 0) := new_first w1 (1 + n / 2)
  obtain ⟨w2, hw2⟩ : ∃ x, x = (w1.alloc (.cells ((madeCells #[.int .u8 0] (1 + n / 2)).setIfInBounds 0 (.int .u8 32)) 5)) := ⟨_, rfl⟩
  rw [← hw2] at NR ⊢
  clear s0 f0
  clear hw2
  have s0 : w2.cell? ⟨w1.heap.size, 0, none⟩ = some (.int .u8 32) := NR.row.cell (i := 0) (by omega)
  have f0 := NR.row.frozen 0
  have HR0 : Hid (NewRow w1 w2 (1 + n / 2) (fun j => if j = 0 then 32 else 0)) := NR
  have c0 : w2.cell? ⟨b, off, none⟩ = some (.int .u8 ((gd s 0 : Nat) : Int)) := (NR.below.cell (p := ⟨b, off, none⟩) hlt).trans (HV.out.cell 0 (by omega))
  have z0 : gd s 0 ≤ 15 := HB.out 0
  obtain ⟨x, hx⟩ : ∃ x, x = gd s 0 := ⟨_, rfl⟩
  have HX : Hid (x = gd s 0) := hx
  rw [← hx] at c0 z0
  have q1 := u8_same (16 + (x : Int)) (by omega) (by omega)
  have q2 := u8_same (32 + (16 + (x : Int))) (by omega) (by omega)
  have i1 : (0 : Int) < (n : Int) := by omega
  have i1b : 0 < n := by omega
  have i3 : (0 : Int) < 1 + (n : Int) / 2 := by omega
  have i3b : 0 < 1 + n / 2 := by omega
  clear NR hx hlt
  go_region_law (fail)
  all_goals (
    have NR : NewRow w1 ((w2.setCell ⟨w1.heap.size, 0, none⟩ (.int .u8 (32 + (16 + (x : Int))))).drew) (1 + n / 2) (pkZ true s 0) := by
      have e := (HR0.out.set 0 (32 + (16 + x))).drew
      rw [show ((32 + (16 + x) : Nat) : Int) = 32 + (16 + (x : Int)) by omega] at e
      refine pkZ_first e ?_ (fun i hi => ?_)
      · rw [HP.out.2.2, ← HX.out]
        rfl
      · show (if i = 0 then _ else if i = 0 then 32 else 0) = 0
        rw [if_neg (by omega), if_neg (by omega)]
    obtain ⟨w3, hw3⟩ : ∃ z, z = (w2.setCell ⟨w1.heap.size, 0, none⟩ (.int .u8 (32 + (16 + (x : Int))))).drew := ⟨_, rfl⟩
    rw [← hw3] at NR ⊢
    clear hw3 s0 f0 c0 HR0
    have HN : Hid (NewRow w1 w3 (1 + n / 2) (pkZ true s 0)) := NR
    clear NR
    go_wp2_with fail
    go_loopg [39] (n / 2) (fun g i wr => ∃ k : Nat, k ≤ n / 2 ∧ g = n / 2 - k ∧ i = .int .i64 k ∧ NewRow w1 wr (1 + n / 2) (pkZ true s k))
    case atStart => exact ⟨0, Nat.zero_le _, rfl, rfl, HN.out⟩
    case round =>
      obtain ⟨k, hk, rfl, rfl, hR⟩ := hrel
      have HR : Hid (NewRow w1 wr (1 + n / 2) (pkZ true s k)) := hR
      clear HN
      by_cases hkn : k < n / 2
      · have k1 : 2 * k < (n - 1) := by omega
        have k2 : 2 * k + 1 < (n - 1) := by omega
        obtain rfl := HW.out.at_ (by omega)
        have hlt := HW.out.lt (by omega)
        have c1 : wr.cell? ⟨b, off + 1 + (2 * k), none⟩ = some (.int .u8 ((gd s (1 + 2 * k) : Nat) : Int)) := (hR.below.cell (p := ⟨b, off + 1 + (2 * k), none⟩) hlt).trans (HW.out.cell (2 * k) k1)
        have c2 : wr.cell? ⟨b, off + 1 + (2 * k + 1), none⟩ = some (.int .u8 ((gd s (1 + (2 * k + 1)) : Nat) : Int)) := (hR.below.cell (p := ⟨b, off + 1 + (2 * k + 1), none⟩) hlt).trans (HW.out.cell (2 * k + 1) k2)
        have z1 : gd s (1 + 2 * k) ≤ 15 := HB.out _
        have z2 : gd s (1 + (2 * k + 1)) ≤ 15 := HB.out _
        have s1 := hR.row.cell (i := 1 + k) (by omega)
        have f1 := hR.row.frozen (1 + k)
        have HY : Hid (∀ x : Int, x = 16 * ((gd s (1 + 2 * k) : Nat) : Int) + ((gd s (1 + (2 * k + 1)) : Nat) : Int) → x = ((pkY true s (1 + k) : Nat) : Int)) := fun x hx => by
          rw [hx, pk_next, HO.out]
          rw [show 1 + (2 * k + 1) = 1 + 2 * k + 1 by omega]
          omega
        obtain ⟨zz, hzz⟩ : ∃ zz, zz = pkZ true s k (1 + k) := ⟨_, rfl⟩
        rw [← hzz] at s1
        clear hzz
        obtain ⟨x, hx⟩ : ∃ x, x = gd s (1 + 2 * k) := ⟨_, rfl⟩
        obtain ⟨y, hy⟩ : ∃ y, y = gd s (1 + (2 * k + 1)) := ⟨_, rfl⟩
        rw [← hx] at c1 z1 HY
        rw [← hy] at c2 z2 HY
        clear hx hy
        have q1 := u8_same (16 * (x : Int)) (by omega) (by omega)
        have q2 := u8_same (16 * (x : Int) + (y : Int)) (by omega) (by omega)
        have o1 : (0 : Int) ≤ 2 * (k : Int) := by omega
        have o2 : (0 : Int) ≤ 2 * (k : Int) + 1 := by omega
        have o3 : IntKind.i64.wrap (2 * (k : Int)) = 2 * (k : Int) := by rw [IntKind.wrap_i64]; omega
        have o3b : IntKind.i64.wrap (2 * (k : Int) + 1) = 2 * (k : Int) + 1 := by rw [IntKind.wrap_i64]; omega
        have o3c : IntKind.i64.wrap (1 + (k : Int)) = 1 + (k : Int) := by rw [IntKind.wrap_i64]; omega
        have o4 : (2 * (k : Int)).toNat = 2 * k := by omega
        have o5 : (2 * (k : Int) + 1).toNat = 2 * k + 1 := by omega
        have o6 : (1 + (k : Int)).toNat = 1 + k := by omega
        have i1 : 2 * (k : Int) < (((n - 1) : Nat) : Int) := by omega
        have i2 : 2 * (k : Int) + 1 < (((n - 1) : Nat) : Int) := by omega
        have i3 : 1 + (k : Int) < ((1 + n / 2 : Nat) : Int) := by omega
        have i4 : (0 : Int) ≤ 1 + (k : Int) := by omega
        have i5 : (k : Int) < (((n - 1) : Nat) : Int) / 2 := by omega
        have i6 : (k : Int) < (n : Int) / 2 := by omega
        have hbn : b ≠ w1.heap.size := by omega
        clear hR hlt k1 k2
        go_wp2_with fail
        go_region_held3 (fun w' => w'.cell? ⟨b, off + 1 + (2 * k), none⟩ = some (.int .u8 (x : Int)) ∧ w'.cell? ⟨b, off + 1 + (2 * k + 1), none⟩ = some (.int .u8 (y : Int))) (first | (refine ⟨?_, ?_⟩ <;> (rw [World.cell?_drew, World.cell?_setCell_other _ _ _ _ (fun h => hbn (congrArg Addr.block h).symm)]; assumption)) | go_keep) (fail)
        have R := pkZ_step HR.out (HY.out _ rfl)
        go_wp2_with fail
        go_roundg (n / 2 - (k + 1))
        case measure => omega
        case rel => exact ⟨k + 1, by omega, rfl, by go_num, R.drew⟩
      · have : k = n / 2 := by omega
        subst this
        have i5 : ¬ ((n / 2 : Nat) : Int) < (((n - 1) : Nat) : Int) / 2 := by omega
        go_wp2_with fail
        go_ret2
        have r : NewRow w1 wr (1 + n / 2) (pkY true s) := HR.out.congr (fun i hi => by unfold pkZ; rw [if_pos hi])
        refine ⟨_, rfl, ?_⟩
        rw [HP.out.2.1, ← HE.out]
        exact r.ans (fun i _ => pkY_lt true HP.out.1.2 i) (by omega))
end Go.Proofs.YtepeolbbplodfaaGreatDoor

/-
  Decode: what is caught.
-/
namespace Go.Proofs.YtepeolbbplodfaaGreatDoor
open Go.RowKit

theorem infoF2 : (Tryz.prog.info? 199).map (·.size) = some 2 := by kernel_rfl

theorem typeAssertF (v : Value) (w : World) : (Instr.typeAssert (.iface 199 v) 20 199 true).run Tryz.prog w = .ok (.tuple #[v, .bool true]) w := by
  simp [Instr.typeAssert, run_underlying Tryz.underlying199, go_sem, Result.andThen]

set_option maxRecDepth 100000 in
set_option maxHeartbeats 1600000 in
theorem faultOf_any (w : World) (p c : Nat) : Calls Tryz.prog 132 #[.iface 199 (.agg #[.int .i64 p, .int .i64 c])] w fun e w' => e = .returned (.agg #[.int .i64 p, .int .i64 c]) ∧ Below w.heap.size w w' := by
  have hta := typeAssertF
  go_enter Tryz.func132, Tryz.ntmps132
  go_wp2_with fail
  refine bodyPost_ret (v := .agg #[.int .i64 p, .int .i64 c]) ?_ rfl ⟨rfl, ((below_alloc _ _).alloc (by simp) _)⟩
  exact results_cell_row rfl _ _ w.heap.size 199 #[.int .i64 p, .int .i64 c] (0, 0) _ rfl ((heap_alloc_old _ _ (by simp)).trans (heap_alloc_new _ _)) Tryz.underlying199 rfl infoF2

/-- the three results' variables -/
structure Rs (w : World) (g : Nat) (x y z : Value) (pl er : Int) : Prop where
  item : Bx w g 191 x y z
  place : w.heap[g + 1]? = some (.cells #[.int .i64 pl] 3 (0, 0))
  errno : w.heap[g + 2]? = some (.cells #[.int .i64 er] 34 (0, 0))

theorem one_set {w : World} {k : Nat} {v v' : Value} {t : TypeId} (h : w.heap[k]? = some (.cells #[v] t (0, 0))) : (w.setCell ⟨k, 0, none⟩ v').heap[k]? = some (.cells #[v'] t (0, 0)) := by
  simp only [World.setCell, Array.getElem?_modify, if_true]
  rw [h]
  rfl
theorem Rs.write {w : World} {g : Nat} {x y z x' y' z' : Value} {pl er pl' er' : Int} (h : Rs w g x y z pl er) : Rs (((set3 w g x' y' z').setCell ⟨g + 1, 0, none⟩ (.int .i64 pl')).setCell ⟨g + 2, 0, none⟩ (.int .i64 er')) g x' y' z' pl' er' ∧ Below g w (((set3 w g x' y' z').setCell ⟨g + 1, 0, none⟩ (.int .i64 pl')).setCell ⟨g + 2, 0, none⟩ (.int .i64 er')) := by
  have t1 := set3_turn w g x' y' z'
  have h2 : g + 2 < w.heap.size := (Array.getElem?_eq_some_iff.1 h.errno).1
  refine ⟨⟨?_, ?_, ?_⟩, ?_⟩
  · refine (h.item.set3).keep ?_
    rw [Below.heap_setCell _ _ _ _ (by show g ≠ g + 2; omega), Below.heap_setCell _ _ _ _ (by show g ≠ g + 1; omega)]
  · rw [Below.heap_setCell _ _ _ _ (by show g + 1 ≠ g + 2; omega)]
    exact one_set ((t1.block _ (by omega) (by omega)).trans h.place)
  · refine one_set (v := .int .i64 er) ?_
    rw [Below.heap_setCell _ _ _ _ (by show g + 2 ≠ g + 1; omega), t1.block _ (by omega) (by omega)]
    exact h.errno
  · exact ((t1.below (B := g) (fun i q => by omega) (by omega)).setCell (by show g ≤ g + 1; omega) _).setCell (by show g ≤ g + 2; omega) _

set_option maxRecDepth 100000 in
set_option maxHeartbeats 1600000 in
theorem catch_panicking (g p c : Nat) (x y z : Value) (pl er : Int) (older : List PanicEntry) (w : World) (h : Rs w g x y z pl er) :
    CallsD Tryz.prog 131 #[.pointer (some ⟨g, 0, none⟩), .pointer (some ⟨g + 1, 0, none⟩), .pointer (some ⟨g + 2, 0, none⟩)] (.panicking (flt p c :: older)) w fun e u' w' =>
      e = .returned (.tuple #[]) ∧ u' = .panicking ({ flt p c with recovered := true } :: older) ∧ Rs w' g (.bool false) (.slice none 0 0) (.slice none 0 0) p c ∧ Below g w w' := by
  have KF := faultOf_any w p c
  refine callsD_of_wpS Tryz.func131 rfl fun c₀ cs hu => ?_
  apply wpS_seq
  apply wpS_region
  simp [wpOpsS, go_sem, recoverD, hu, flt, Tryz.ntmps131, Exit.thenS]
  refine wpS_of_wp ?_
  have e12 : Array.replicate 12 undef = #[undef, undef, undef, undef, undef, undef, undef, undef, undef, undef, undef, undef] := rfl
  simp only [e12, List.setIfInBounds_toArray, List.set_cons_zero, List.set_cons_succ, List.append_toArray, List.cons_append, List.nil_append]
  clear e12
  go_wp2_with (go_at_call 132; refine KF.mono ?_; rintro e w1 ⟨rfl, hb1⟩)
  have z2 : g + 2 < w.heap.size := (Array.getElem?_eq_some_iff.1 h.errno).1
  obtain ⟨W, eW⟩ : ∃ W, W = w1.alloc (.cells #[.int .i64 p, .int .i64 c] 199) := ⟨_, rfl⟩
  have bW : Below w.heap.size w W := by rw [eW]; exact ch hb1 (below_alloc _ _)
  have hx : Bx W g 191 x y z := h.item.keep (bW.block _ (by omega))
  have hp := (bW.block (g + 1) (by omega)).trans h.place
  have he := (bW.block (g + 2) (by omega)).trans h.errno
  have hf : W.heap[w1.heap.size]? = some (.cells #[.int .i64 p, .int .i64 c] 199 (0, 0)) := by rw [eW]; exact heap_alloc_new _ _
  obtain ⟨x0, x1, x2, xf⟩ := hx.cells
  have xf0 := xf 0
  have xf1 := xf 1
  have xf2 := xf 2
  have p0 : W.cell? ⟨g + 1, 0, none⟩ = some (.int .i64 pl) := cell_of_row _ _ _ _ _ _ hp
  have e0 : W.cell? ⟨g + 2, 0, none⟩ = some (.int .i64 er) := cell_of_row _ _ _ _ _ _ he
  have f0 : W.cell? ⟨w1.heap.size, 0, none⟩ = some (.int .i64 p) := cell_of_row _ _ _ _ _ _ hf
  have f1 : W.cell? ⟨w1.heap.size, 1, none⟩ = some (.int .i64 c) := cell_of_row _ _ _ _ _ _ hf
  have fr : ∀ (k : Nat) (cs : Array Value) (t : TypeId), W.heap[k]? = some (.cells cs t (0, 0)) → W.frozen? ⟨k, 0, none⟩ = false := fun k cs t hk => by
    have r : W.rowIs k t cs.size (fun i => cs.getD i (.bool true)) := ⟨_, hk, rfl, fun i hi => by
      show _ = some (cs.getD i (.bool true))
      rw [Array.getD_eq_getD_getElem?, Array.getElem?_eq_getElem (by simpa using hi)]
      rfl⟩
    exact r.frozen 0
  have pf := fr _ _ _ hp
  have ef := fr _ _ _ he
  rw [← eW]
  have n1 : ¬ w1.heap.size = g := by have := hb1.size; omega
  have n2 : ¬ w1.heap.size = g + 1 := by have := hb1.size; omega
  have n3 : ¬ w1.heap.size = g + 2 := by have := hb1.size; omega
  have m1 : ¬ g = w1.heap.size := by have := hb1.size; omega
  have m2 : ¬ g + 1 = w1.heap.size := by have := hb1.size; omega
  have m3 : ¬ g + 2 = w1.heap.size := by have := hb1.size; omega
  have HH : Hid (Bx W g 191 x y z ∧ W.heap[g + 1]? = some (.cells #[.int .i64 pl] 3 (0, 0)) ∧ W.heap[g + 2]? = some (.cells #[.int .i64 er] 34 (0, 0)) ∧ Below w.heap.size w W ∧ g + 2 < w.heap.size) := ⟨hx, hp, he, bW, z2⟩
  clear hx hp he hf fr xf eW bW h KF hb1
  go_region_held3 (fun w' => w'.cell? ⟨w1.heap.size, 0, none⟩ = some (.int .i64 p) ∧ w'.cell? ⟨w1.heap.size, 1, none⟩ = some (.int .i64 c)) (first | go_keep | (constructor <;> simp_all)) (fail)
  have hR : Rs W g x y z pl er := ⟨HH.out.1, HH.out.2.1, HH.out.2.2.1⟩
  have hw := hR.write (x' := .bool false) (y' := .slice none 0 0) (z' := .slice none 0 0) (pl' := p) (er' := c)
  have hb : Below g w W := HH.out.2.2.2.1.mono (by have := HH.out.2.2.2.2; omega)
  exact ⟨rfl, _, rfl, .tuple #[], results_none rfl _ _ _, rfl, rfl, ⟨hw.1.item, hw.1.place, hw.1.errno⟩, (hb.trans hw.2).drew⟩

set_option maxRecDepth 100000 in
set_option maxHeartbeats 1600000 in
theorem catch_idle (g : Nat) (w : World) :
    CallsD Tryz.prog 131 #[.pointer (some ⟨g, 0, none⟩), .pointer (some ⟨g + 1, 0, none⟩), .pointer (some ⟨g + 2, 0, none⟩)] .returning w fun e u' w' => e = .returned (.tuple #[]) ∧ u' = .returning ∧ w' = w := by
  refine callsD_of_wpS Tryz.func131 rfl fun c₀ cs hu => ?_
  apply wpS_seq
  apply wpS_region
  simp [wpOpsS, go_sem, recoverD, hu, Tryz.ntmps131, Exit.thenS]
  refine wpS_of_wp ?_
  have e12 : Array.replicate 12 undef = #[undef, undef, undef, undef, undef, undef, undef, undef, undef, undef, undef, undef] := rfl
  simp only [e12, List.setIfInBounds_toArray, List.set_cons_zero, List.set_cons_succ, List.append_toArray, List.cons_append, List.nil_append]
  clear e12
  go_wp2_with fail
  cases c₀
  simp only at hu
  subst hu
  exact ⟨rfl, .returning, rfl, .tuple #[], results_none rfl _ _ _, rfl, rfl, rfl⟩
end Go.Proofs.YtepeolbbplodfaaGreatDoor

/-
  path.pathLength, path.isForm.
-/
namespace Go.Proofs.YtepeolbbplodfaaGreatDoor
open Go.RowKit

theorem n16 : ∀ x : Fin 256, x.val &&& 16 = 16 * (x.val / 16 % 2) := by decide +kernel
theorem n32 : ∀ x : Fin 256, x.val &&& 32 = 32 * (x.val / 32 % 2) := by decide +kernel
theorem ret_intF {k : IntKind} {a b : Int} (h : a = b) : Ending.returned (.int k a) = .returned (.int k b) := by rw [h]
theorem ret_bool {a b : Bool} (h : a = b) : Ending.returned (.bool a) = .returned (.bool b) := by rw [h]
theorem a16 (x : Nat) (h : x < 256) : bits .and .u8 (x : Int) 16 = ((16 * (x / 16 % 2) : Nat) : Int) := by
  have := u8_and_nat x 16 h (by decide)
  rw [n16 ⟨x, h⟩] at this
  exact this
theorem a32 (x : Nat) (h : x < 256) : bits .and .u8 (x : Int) 32 = ((32 * (x / 32 % 2) : Nat) : Int) := by
  have := u8_and_nat x 32 h (by decide)
  rw [n32 ⟨x, h⟩] at this
  exact this

set_option maxRecDepth 100000 in
set_option maxHeartbeats 800000 in
theorem plen_any (w : World) (a : Option Addr) (b off c : Nat) (s : List Nat) (hv : Vw w a b off s) (h0 : 0 < s.length) :
    Calls Tryz.prog 154 #[.slice a s.length c] w fun e w' => e = .returned (.int .i64 ((plen s : Nat) : Int)) ∧ w' = w := by
  have hn := hv.len
  have c0 := hv.cell 0 h0
  obtain rfl := hv.at_ h0
  have hz : gd s 0 < 256 := gd_lt (vw_ok hv).2 0
  have HP : Hid (plen s = 2 * (s.length - 1) + gd s 0 / 16 % 2) := by show plen s = _; unfold plen od; rfl
  have m16 := a16 (gd s 0) hz
  obtain ⟨x, hx⟩ : ∃ x, x = gd s 0 := ⟨_, rfl⟩
  obtain ⟨n, en⟩ : ∃ n, n = s.length := ⟨_, rfl⟩
  rw [← hx] at c0 hz HP m16
  rw [← en] at h0 hn HP ⊢
  rw [Nat.add_zero] at c0
  clear hv hx en
  have i1 : (0 : Int) < (n : Int) := by omega
  by_cases o : x / 16 % 2 = 0
  · rw [o] at m16
    have HO : Hid (x / 16 % 2 = 0) := o
    replace m16 : bits .and .u8 (x : Int) 16 = 0 := m16
    clear o
    go_enter Tryz.func154, Tryz.ntmps154
    go_wp2_with fail
    go_ret
    refine ⟨ret_intF ?_, rfl⟩
    rw [HP.out, HO.out]
    omega
  · have o1 : x / 16 % 2 = 1 := by omega
    rw [o1] at m16
    have HO : Hid (x / 16 % 2 = 1) := o1
    replace m16 : bits .and .u8 (x : Int) 16 = 16 := m16
    clear o o1
    go_enter Tryz.func154, Tryz.ntmps154
    go_wp2_with fail
    go_ret
    refine ⟨ret_intF ?_, rfl⟩
    rw [HP.out, HO.out]
    omega

set_option maxRecDepth 100000 in
set_option maxHeartbeats 1600000 in
theorem isForm_any (w : World) (a : Option Addr) (b off c : Nat) (s : List Nat) (hv : Vw w a b off s) :
    Calls Tryz.prog 153 #[.slice a s.length c] w fun e w' => e = .returned (.bool (decide (IsF s))) ∧ w' = w := by
  have hn := hv.len
  by_cases h0 : 0 < s.length
  · have K := plen_any w a b off c s hv h0
    have c0 := hv.cell 0 h0
    obtain rfl := hv.at_ h0
    have hz : gd s 0 < 256 := gd_lt (vw_ok hv).2 0
    have HF : Hid (IsF s ↔ (gd s 0 < 64 ∧ (gd s 0 / 16 % 2 = 0 → gd s 0 % 16 = 0) ∧ plen s ≤ 64)) := by
      show IsF s ↔ _
      unfold IsF od
      exact ⟨fun h => h.2, fun h => ⟨h0, h⟩⟩
    have hl : plen s ≤ 562949953421313 := by unfold plen; have := od_lt s; omega
    have m16 := a16 (gd s 0) hz
    obtain ⟨x, hx⟩ : ∃ x, x = gd s 0 := ⟨_, rfl⟩
    obtain ⟨n, en⟩ : ∃ n, n = s.length := ⟨_, rfl⟩
    obtain ⟨p, ep⟩ : ∃ p, p = plen s := ⟨_, rfl⟩
    rw [← hx] at c0 hz m16 HF
    rw [← en] at h0 hn K ⊢
    rw [← ep] at HF K hl
    rw [Nat.add_zero] at c0
    have HK : Hid (Calls Tryz.prog 154 #[.slice (some ⟨b, off, none⟩) n c] w fun e w' => e = .returned (.int .i64 (p : Int)) ∧ w' = w) := K
    clear hv hx en ep K
    have i1 : (0 : Int) < (n : Int) := by omega
    have i2 : ((n : Int) == 0) = false := by simp; omega
    by_cases h64 : 64 ≤ x
    · have e0 : decide (IsF s) = false := decide_eq_false (fun h => by have := (HF.out.1 h).1; omega)
      rw [e0]
      have g1 : (64 : Int) ≤ (x : Int) := by omega
      clear h64
      go_enter Tryz.func153, Tryz.ntmps153
      go_wp2_with fail
      go_ret
      exact ⟨rfl, rfl⟩
    · have g1 : ¬ (64 : Int) ≤ (x : Int) := by omega
      by_cases o : x / 16 % 2 = 0
      · have m16' : bits .and .u8 (x : Int) 16 = 0 := by rw [m16, o]; rfl
        have HO : Hid (x / 16 % 2 = 0 ∧ x < 64) := ⟨o, by omega⟩
        clear m16 o h64
        by_cases l : x % 16 = 0
        · have HL : Hid (x % 16 = 0) := l
          have l1 : ((x : Int) % 16 == 0) = true := by simp; omega
          have l2 : (x : Int) % 16 = 0 := by omega
          have e0 : decide (IsF s) = decide (p ≤ 64) := by
            have := HF.out
            have h1 := HO.out
            have h2 := HL.out
            rw [decide_eq_decide, this]
            exact ⟨fun h => h.2.2, fun h => ⟨h1.2, fun _ => h2, h⟩⟩
          rw [e0]
          clear l
          go_enter Tryz.func153, Tryz.ntmps153
          go_wp2_with fail
          refine HK.out.mono ?_
          rintro e w1 ⟨rfl, rfl⟩
          go_wp2_with fail
          go_ret
          refine ⟨ret_bool ?_, rfl⟩
          rw [decide_eq_decide]
          omega
        · have l1 : ((x : Int) % 16 == 0) = false := by simp; omega
          have l2 : ¬ (x : Int) % 16 = 0 := by omega
          have e0 : decide (IsF s) = false := decide_eq_false (fun h => l ((HF.out.1 h).2.1 HO.out.1))
          rw [e0]
          clear l
          go_enter Tryz.func153, Tryz.ntmps153
          go_wp2_with fail
          go_ret
          exact ⟨rfl, rfl⟩
      · have o1 : x / 16 % 2 = 1 := by omega
        have m16' : bits .and .u8 (x : Int) 16 = 16 := by rw [m16, o1]; rfl
        have e0 : decide (IsF s) = decide (p ≤ 64) := by
          have := HF.out
          rw [decide_eq_decide, this]
          exact ⟨fun h => h.2.2, fun h => ⟨by omega, fun z => absurd z o, h⟩⟩
        rw [e0]
        clear m16 o h64 o1
        go_enter Tryz.func153, Tryz.ntmps153
        go_wp2_with fail
        refine HK.out.mono ?_
        rintro e w1 ⟨rfl, rfl⟩
        go_wp2_with fail
        go_ret
        refine ⟨ret_bool ?_, rfl⟩
        rw [decide_eq_decide]
        omega
  · have e0 : decide (IsF s) = false := decide_eq_false (fun h => h0 h.1)
    rw [e0]
    have en : s.length = 0 := by omega
    rw [en]
    clear hv hn h0 en e0
    go_enter Tryz.func153, Tryz.ntmps153
    go_wp2_with fail
    go_ret
    exact ⟨rfl, rfl⟩
end Go.Proofs.YtepeolbbplodfaaGreatDoor

/-
  path.Unpack: what stands in the answer.
-/
namespace Go.Proofs.YtepeolbbplodfaaGreatDoor
open Go.RowKit

theorem upY_zero {s : List Nat} (h : od s = 1) : upY s 0 = gd s 0 % 16 := by
  unfold upY
  rw [h]
  rfl
theorem upY_hi (s : List Nat) (k : Nat) : upY s (od s + 2 * k) = gd s (1 + k) / 16 := by
  have := od_lt s
  unfold upY nib
  rw [if_pos (by omega), show (od s + 2 * k + (2 - od s)) / 2 = 1 + k by omega]
theorem upY_lo (s : List Nat) (k : Nat) : upY s (od s + 2 * k + 1) = gd s (1 + k) % 16 := by
  have := od_lt s
  unfold upY nib
  rw [if_neg (by omega), show (od s + 2 * k + 1 + (2 - od s)) / 2 = 1 + k by omega]
/-- what stands in the answer ahead of the loop's round k -/
def upZ (s : List Nat) (k i : Nat) : Nat := if i < od s + 2 * k then upY s i else 0
theorem upZ_step {w wr : World} {N k o p q : Nat} {s : List Nat} (h : NewRow w wr N (upZ s k)) (ho : od s = o) (hp : p = o + 2 * k) (hq : q = o + 2 * k + 1) {x y : Int} (hx : x = ((gd s (1 + k) / 16 : Nat) : Int)) (hy : y = ((gd s (1 + k) % 16 : Nat) : Int)) :
    NewRow w ((wr.setCell ⟨w.heap.size, p, none⟩ (.int .u8 x)).setCell ⟨w.heap.size, q, none⟩ (.int .u8 y)) N (upZ s (k + 1)) := by
  subst hp
  subst hq
  subst ho
  rw [hx, hy, ← upY_hi, ← upY_lo]
  refine ((h.set _ _).set _ _).congr (fun i _ => ?_)
  unfold upZ
  by_cases e1 : i = od s + 2 * k + 1
  · subst e1
    rw [if_pos rfl, if_pos (by omega)]
  · rw [if_neg e1]
    by_cases e2 : i = od s + 2 * k
    · subst e2
      rw [if_pos rfl, if_pos (by omega)]
    · rw [if_neg e2]
      by_cases e3 : i < od s + 2 * k
      · rw [if_pos e3, if_pos (by omega)]
      · rw [if_neg e3, if_neg (by omega)]
theorem upZ_even {w : World} {N : Nat} {s : List Nat} (h : od s = 0) : NewRow w (w.alloc (.cells (madeCells #[.int .u8 0] N) 5)) N (upZ s 0) := (NewRow.made w N).congr (fun i _ => by unfold upZ; rw [h, if_neg (by omega)])
theorem upZ_odd {w : World} {N : Nat} {s : List Nat} (h : od s = 1) {y : Int} (hy : y = ((upY s 0 : Nat) : Int)) : NewRow w (w.alloc (.cells ((madeCells #[.int .u8 0] N).setIfInBounds 0 (.int .u8 y)) 5)) N (upZ s 0) := by
  have e : (w.alloc (.cells (madeCells #[.int .u8 0] N) 5)).setCell ⟨w.heap.size, 0, none⟩ (.int .u8 y) = w.alloc (.cells ((madeCells #[.int .u8 0] N).setIfInBounds 0 (.int .u8 y)) 5) := World.setCell_alloc_new _ _ _ _
  rw [← e, hy]
  refine ((NewRow.made w N).set 0 (upY s 0)).congr (fun i _ => ?_)
  unfold upZ
  rw [h]
  by_cases q : i = 0
  · subst q
    rw [if_pos rfl, if_pos (by omega)]
  · rw [if_neg q, if_neg (by omega)]
end Go.Proofs.YtepeolbbplodfaaGreatDoor

/-
  path.Unpack of an even form.
-/
namespace Go.Proofs.YtepeolbbplodfaaGreatDoor
open Go.RowKit

set_option maxRecDepth 100000 in
set_option maxHeartbeats 1600000 in
theorem unpack_0 (w : World) (a : Option Addr) (b off c : Nat) (s : List Nat) (hv : Vw w a b off s) (hc : s.length ≤ c) (hp : IsF s) (ho : od s = 0) :
    Calls Tryz.prog 146 #[.slice a s.length c] w fun e w' => ∃ v, e = .returned (.tuple #[v, .bool (lf s), .int .i64 0]) ∧ Ans w w' v (upL s) := by
  have K := isForm_any w a b off c s hv
  rw [decide_eq_true hp] at K
  have K2 := plen_any w a b off c s hv hp.1
  have HB : Hid (∀ i, gd s i < 256) := fun i => gd_lt (vw_ok hv).2 i
  have HI : Hid (∀ x ∈ s, x < 256) := (vw_ok hv).2
  have hz : gd s 0 < 256 := HB.out 0
  have h64 := hp.2.1
  have hl : plen s ≤ 64 := hp.2.2.2
  have h0 := hp.1
  have ep : plen s = 2 * (s.length - 1) + 0 := by unfold plen; rw [ho]
  have HV : Hid (Vw w a b off s) := hv
  obtain rfl := hv.at_ h0
  have c0 : w.cell? ⟨b, off, none⟩ = some (.int .u8 ((gd s 0 : Nat) : Int)) := hv.cell 0 h0
  have hlt := hv.lt h0
  have HLF : Hid (lf s = decide (32 ≤ gd s 0)) := rfl
  have m16 := a16 (gd s 0) hz
  have eo : gd s 0 / 16 % 2 = 0 := ho
  rw [eo] at m16
  replace m16 : bits .and .u8 ((gd s 0 : Nat) : Int) 16 = 0 := m16
  have m32 := a32 (gd s 0) hz
  have HM : Hid (bits .and .u8 ((gd s 0 : Nat) : Int) 32 = ((32 * (gd s 0 / 32 % 2) : Nat) : Int)) := m32
  skip
  obtain ⟨p, hpe⟩ : ∃ p, p = plen s := ⟨_, rfl⟩
  have HU : Hid (od s = 0 ∧ p = plen s) := ⟨ho, hpe⟩
  rw [← hpe] at hl K2 ep
  have l1 : p ≤ 2 * (s.length - 1) + 0 := by omega
  have l2 : 2 * (s.length - 1) + 0 ≤ p := by omega
  obtain ⟨n, en⟩ : ∃ n, n = s.length := ⟨_, rfl⟩
  obtain ⟨x, hx⟩ : ∃ x, x = gd s 0 := ⟨_, rfl⟩
  have HE : Hid (n = s.length) := en
  rw [← hx] at hz h64 c0 HLF m16 HM
  rw [← en] at h0 l1 l2 K K2 hc ⊢
  have HW : Hid (View w (behind (some (⟨b, off, none⟩ : Addr)) c 1) b (off + 1) (n - 1) (fun i => ((gd s (1 + i) : Nat) : Int))) := by
    refine ⟨fun h => ?_, fun i hi => ?_, fun i hi => ?_, by omega⟩
    · unfold behind
      rw [if_neg (by omega)]
      rfl
    · have := HV.out.cell (1 + i) (by have := HE.out; omega)
      rw [Nat.add_assoc]
      exact this
    · have := HB.out (1 + i)
      omega
  obtain ⟨a', ha'⟩ : ∃ a', a' = behind (some (⟨b, off, none⟩ : Addr)) c 1 := ⟨_, rfl⟩
  have j1 : ∀ u, (Instr.slice 33 (.slice (some ⟨b, off, none⟩) n c) (some (.int .i64 1)) none none).run Tryz.prog u = .ok (.slice a' (n - 1) (c - 1)) u := fun u => by rw [ha']; exact slice_from _ n c 1 (by omega) u
  rw [← ha'] at HW
  clear hv hp ho en hx m32 eo ha' ep hpe
  have hmk := run_make_row' (P := Tryz.prog) 33 5 (.int .u8 0) 1 Tryz.underlying33 Tryz.info5 rfl .i64 .i64 p (by omega) (by omega)
  have d0 : (w.alloc (.cells (madeCells #[.int .u8 0] p) 5)).cell? ⟨b, off, none⟩ = some (.int .u8 (x : Int)) := (World.cell?_alloc_old _ _ _ (by show b ≠ w.heap.size; omega)).trans c0
  have HK : Hid (Calls Tryz.prog 153 #[.slice (some ⟨b, off, none⟩) n c] w fun e w' => e = .returned (.bool true) ∧ w' = w) := K
  have HK2 : Hid (Calls Tryz.prog 154 #[.slice (some ⟨b, off, none⟩) n c] w fun e w' => e = .returned (.int .i64 ((p : Nat) : Int)) ∧ w' = w) := K2
  have i1 : (0 : Int) < (n : Int) := by omega
  have i1b : 0 < n := by omega
  clear K K2
  go_enter Tryz.func146, Tryz.ntmps146
  go_wp2_with fail
  refine HK.out.mono ?_
  rintro e w1 ⟨rfl, rfl⟩
  go_wp2_with fail
  refine HK2.out.mono ?_
  rintro e w2 ⟨rfl, rfl⟩
  go_wp2_with fail
  have HN : Hid (NewRow w2 (w2.alloc (.cells (madeCells #[.int .u8 0] p) 5)) p (upZ s 0)) := upZ_even HU.out.1
  clear hmk d0
  go_loopg [31] (n - 1) (fun g i wr => ∃ k : Nat, k ≤ n - 1 ∧ g = n - 1 - k ∧ i = .int .i64 k ∧ NewRow w2 wr p (upZ s k))
  case atStart => exact ⟨0, Nat.zero_le _, rfl, rfl, HN.out⟩
  case round =>
    obtain ⟨k, hk, rfl, rfl, hR⟩ := hrel
    have HR : Hid (NewRow w2 wr p (upZ s k)) := hR
    clear HN
    by_cases hkn : k < n - 1
    · obtain rfl := HW.out.at_ (by omega)
      skip
      have d1 : wr.cell? ⟨b, off + 1 + k, none⟩ = some (.int .u8 ((gd s (1 + k) : Nat) : Int)) := (hR.below.cell (p := ⟨b, off + 1 + k, none⟩) hlt).trans (HW.out.cell k hkn)
      have z1 : gd s (1 + k) < 256 := HB.out _
      have s1 := hR.row.cell (i := 2 * k) (by omega)
      have f1 := hR.row.frozen (2 * k)
      have s2 := hR.row.cell (i := 2 * k + 1) (by omega)
      have f2 := hR.row.frozen (2 * k + 1)
      have HY : Hid (∀ y z : Int, y = ((gd s (1 + k) : Nat) : Int) / 16 → z = ((gd s (1 + k) : Nat) : Int) % 16 → NewRow w2 ((wr.setCell ⟨w2.heap.size, 2 * k, none⟩ (.int .u8 y)).setCell ⟨w2.heap.size, 2 * k + 1, none⟩ (.int .u8 z)) p (upZ s (k + 1))) := fun y z hy hz => upZ_step hR HU.out.1 (by omega) (by omega) (by rw [hy]; omega) (by rw [hz]; omega)
      obtain ⟨y, hy⟩ : ∃ y, y = gd s (1 + k) := ⟨_, rfl⟩
      rw [← hy] at d1 z1 HY
      obtain ⟨t1, ht1⟩ : ∃ t, t = upZ s k (2 * k) := ⟨_, rfl⟩
      obtain ⟨t2, ht2⟩ : ∃ t, t = upZ s k (2 * k + 1) := ⟨_, rfl⟩
      rw [← ht1] at s1
      rw [← ht2] at s2
      clear hy ht1 ht2 hR
      have y0 : (0 : Int) ≤ (y : Int) := by omega
      have y1 : (y : Int) ≤ 255 := by omega
      have k1 : (k : Int) < ((n - 1 : Nat) : Int) := by omega
      have k2 : 2 * (k : Int) < ((p : Nat) : Int) := by omega
      have k3 : 2 * (k : Int) + 1 < ((p : Nat) : Int) := by omega
      go_wp2_with fail
      go_roundg (n - 1 - (k + 1))
      case measure => omega
      case rel => exact ⟨k + 1, by omega, rfl, by go_num, HY.out _ _ rfl rfl⟩
    · have : k = n - 1 := by omega
      subst this
      have i5 : ¬ ((n - 1 : Nat) : Int) < ((n - 1 : Nat) : Int) := by omega
      have d2 : wr.cell? ⟨b, off, none⟩ = some (.int .u8 (x : Int)) := (hR.below.cell (p := ⟨b, off, none⟩) hlt).trans c0
      have r : NewRow w2 wr p (upY s) := hR.congr (fun i hi => by unfold upZ; rw [HU.out.1, if_pos (by omega)])
      have HN : Hid (NewRow w2 wr p (upY s)) := r
      clear r hR
      by_cases q : 32 ≤ x
      · have m32 : bits .and .u8 (x : Int) 32 = 32 := by rw [HM.out, show x / 32 % 2 = 1 by omega]; rfl
        have el : lf s = true := by rw [HLF.out]; exact decide_eq_true q
        have HEL : Hid (lf s = true) := el
        clear el q
        go_wp2_with fail
        go_quiet (fail)
        go_wp2_with fail
        go_ret3
        refine ⟨_, by rw [HEL.out]; rfl, ?_⟩
        unfold upL
        rw [← HU.out.2]
        exact (HN.out.drewN _).ans (fun i _ => by have := nib_le HI.out (i + (2 - od s)); unfold upY; omega) (by omega)
      · have m32 : bits .and .u8 (x : Int) 32 = 0 := by rw [HM.out, show x / 32 % 2 = 0 by omega]; rfl
        have el : lf s = false := by rw [HLF.out]; exact decide_eq_false q
        have HEL : Hid (lf s = false) := el
        clear el q
        go_wp2_with fail
        go_quiet (fail)
        go_wp2_with fail
        go_ret3
        refine ⟨_, by rw [HEL.out]; rfl, ?_⟩
        unfold upL
        rw [← HU.out.2]
        exact (HN.out.drewN _).ans (fun i _ => by have := nib_le HI.out (i + (2 - od s)); unfold upY; omega) (by omega)
end Go.Proofs.YtepeolbbplodfaaGreatDoor

/-
  Operations of a region that draws its order, each by a law of its own.
-/
namespace Go.Proofs.YtepeolbbplodfaaGreatDoor
open Go.RowKit

section
variable {ops : Array Oper} {S : World → Prop} {o : Oper} {a : Act}
theorem y_move (hw : Region.wanted o (yielded ops a.tmps) = true) (x : Operand) (ho : o.op = .move x) (v : Value) (hx : a.eval x = v) : YieldsIf Tryz.prog ops S o v a :=
  .inl ⟨hw, fun w _ => by unfold execOp; simp only [ho, hx]; rfl⟩
theorem y_assign (hw : Region.wanted o (yielded ops a.tmps) = true) (x : Operand) (ho : o.op = .assign x) (v : Value) (hx : a.eval x = v) : YieldsIf Tryz.prog ops S o v a :=
  .inl ⟨hw, fun w _ => by unfold execOp; simp only [ho, hx]; rfl⟩
theorem y_no (hw : Region.wanted o (yielded ops a.tmps) = false) : YieldsIf Tryz.prog ops S o undef a := .inr ⟨hw, rfl⟩
theorem y_pick_t (hw : Region.wanted o (yielded ops a.tmps) = true) (x y z : Operand) (ho : o.op = .pick x y z) (v : Value) (hx : a.eval x = .bool true) (hy : a.eval y = v) : YieldsIf Tryz.prog ops S o v a :=
  .inl ⟨hw, fun w _ => by
    unfold execOp
    simp only [ho, hx, hy]
    go_simp⟩
theorem y_pick_f (hw : Region.wanted o (yielded ops a.tmps) = true) (x y z : Operand) (ho : o.op = .pick x y z) (v : Value) (hx : a.eval x = .bool false) (hz : a.eval z = v) : YieldsIf Tryz.prog ops S o v a :=
  .inl ⟨hw, fun w _ => by
    unfold execOp
    simp only [ho, hx, hz]
    go_simp⟩
theorem y_notT (hw : Region.wanted o (yielded ops a.tmps) = true) (x : Operand) (ho : o.op = .unOp .not 4 x) (hx : a.eval x = .bool true) : YieldsIf Tryz.prog ops S o (.bool false) a :=
  .inl ⟨hw, fun w _ => by
    unfold execOp
    simp only [ho, hx]
    go_simp⟩
theorem y_conv (hw : Region.wanted o (yielded ops a.tmps) = true) (x : Operand) (ho : o.op = .convert 33 9 x) (v u : Value) (hx : a.eval x = v) (hS : ∀ w, S w → (convert 33 9 v).run Tryz.prog w = .ok u w) : YieldsIf Tryz.prog ops S o u a :=
  .inl ⟨hw, fun w hs => by
    have c := hS w hs
    unfold execOp
    simp only [ho, hx]
    go_simp⟩
theorem y_eqlS (hw : Region.wanted o (yielded ops a.tmps) = true) (x y : Operand) (ho : o.op = .binOp .eql 9 x y 9) (s : ByteArray) (hx : a.eval x = .string s) (hy : a.eval y = .string s) : YieldsIf Tryz.prog ops S o (.bool true) a :=
  .inl ⟨hw, fun w _ => by
    unfold execOp
    simp only [ho, hx, hy]
    go_simp⟩
theorem y_neqS (hw : Region.wanted o (yielded ops a.tmps) = true) (x y : Operand) (ho : o.op = .binOp .neq 9 x y 9) (s : ByteArray) (hx : a.eval x = .string s) (hy : a.eval y = .string s) : YieldsIf Tryz.prog ops S o (.bool false) a :=
  .inl ⟨hw, fun w _ => by
    unfold execOp
    simp only [ho, hx, hy]
    go_simp⟩
theorem y_eqlI (hw : Region.wanted o (yielded ops a.tmps) = true) (x y : Operand) (ho : o.op = .binOp .eql 3 x y 3) (d : Int) (hx : a.eval x = .int .i64 d) (hy : a.eval y = .int .i64 d) : YieldsIf Tryz.prog ops S o (.bool true) a :=
  .inl ⟨hw, fun w _ => by
    unfold execOp
    simp only [ho, hx, hy]
    go_simp⟩
theorem y_eqlJ (hw : Region.wanted o (yielded ops a.tmps) = true) (x y : Operand) (ho : o.op = .binOp .eql 2 x y 2) (d : Int) (hx : a.eval x = .int .i64 d) (hy : a.eval y = .int .i64 d) : YieldsIf Tryz.prog ops S o (.bool true) a :=
  .inl ⟨hw, fun w _ => by
    unfold execOp
    simp only [ho, hx, hy]
    go_simp⟩
theorem y_neqI (hw : Region.wanted o (yielded ops a.tmps) = true) (x y : Operand) (ho : o.op = .binOp .neq 3 x y 3) (d : Int) (hx : a.eval x = .int .i64 d) (hy : a.eval y = .int .i64 d) : YieldsIf Tryz.prog ops S o (.bool false) a :=
  .inl ⟨hw, fun w _ => by
    unfold execOp
    simp only [ho, hx, hy]
    go_simp⟩
theorem y_field25 (hw : Region.wanted o (yielded ops a.tmps) = true) (x : Operand) (ho : o.op = .fieldAddr 191 x 1) (g : Nat) (hx : a.eval x = .pointer (some ⟨g, 0, none⟩)) : YieldsIf Tryz.prog ops S o (.pointer (some ⟨g, 1, none⟩)) a :=
  .inl ⟨hw, fun w _ => by
    unfold execOp
    simp only [ho, hx]
    go_simp⟩
theorem y_loadB (hw : Region.wanted o (yielded ops a.tmps) = true) (x : Operand) (ho : o.op = .load 33 x) (g p : Nat) (hx : a.eval x = .pointer (some ⟨g, p, none⟩)) (v : Value) (hS : ∀ w, S w → w.cell? ⟨g, p, none⟩ = some v) : YieldsIf Tryz.prog ops S o v a :=
  .inl ⟨hw, fun w hs => by
    have c := hS w hs
    unfold execOp
    simp only [ho, hx]
    go_simp⟩
theorem y_load25 (hw : Region.wanted o (yielded ops a.tmps) = true) (x : Operand) (ho : o.op = .load 191 x) (g : Nat) (hx : a.eval x = .pointer (some ⟨g, 0, none⟩)) (u v z : Value) (hS : ∀ w, S w → w.cell? ⟨g, 0, none⟩ = some u ∧ w.cell? ⟨g, 1, none⟩ = some v ∧ w.cell? ⟨g, 2, none⟩ = some z) : YieldsIf Tryz.prog ops S o (.agg #[u, v, z]) a :=
  yieldsIf_load_mid hw _ _ ho g 0 hx [u, v, z] _ (fun w hs => range3 (hS w hs).1 (hS w hs).2.1 (hS w hs).2.2) Tryz.underlying191 rfl info25s
/-- a call of a function of one argument -/
theorem r_call1 {Q : Exit → Act → World → Prop} {w : World} {K : Act → World → Prop} {E : Prop} (f : Nat) (x : Operand) (ts : Array TypeId) (ho : o.op = .call { callee := .value (.func f), args := #[x], argTypes := ts }) (hw : Region.wanted o (yielded ops a.tmps) = true) (u : Value) (hx : a.eval x = u)
    (eg : ∀ args w, (callFunc f args).run Tryz.prog w = .ok (.enter f args) w) (hc : Calls Tryz.prog f #[u] w fun e w' => ∃ z, e = .returned z ∧ K (a.put o.dst z) w') :
    if Region.wanted o (yielded ops a.tmps) = true then Oper.wp Tryz.prog o a w K Q else E := by
  rw [if_pos hw]
  have e : (execOp a.eval o).run Tryz.prog w = .ok (.enter f #[u]) w := by
    unfold execOp
    have := eg #[u] w
    simp only [ho, resolve, List.map_toArray, List.map_cons, List.map_nil, hx]
    go_simp
  unfold Oper.wp
  rw [e, Oper.upon_enter]
  refine hc.mono ?_
  rintro _ w' ⟨z, rfl, h⟩
  exact h
/-- a call of a function of two arguments -/
theorem r_call2 {Q : Exit → Act → World → Prop} {w : World} {K : Act → World → Prop} {E : Prop} (f : Nat) (x y : Operand) (ts : Array TypeId) (ho : o.op = .call { callee := .value (.func f), args := #[x, y], argTypes := ts }) (hw : Region.wanted o (yielded ops a.tmps) = true) (u v : Value) (hx : a.eval x = u) (hy : a.eval y = v)
    (eg : ∀ args w, (callFunc f args).run Tryz.prog w = .ok (.enter f args) w) (hc : Calls Tryz.prog f #[u, v] w fun e w' => ∃ z, e = .returned z ∧ K (a.put o.dst z) w') :
    if Region.wanted o (yielded ops a.tmps) = true then Oper.wp Tryz.prog o a w K Q else E := by
  rw [if_pos hw]
  have e : (execOp a.eval o).run Tryz.prog w = .ok (.enter f #[u, v]) w := by
    unfold execOp
    have := eg #[u, v] w
    simp only [ho, resolve, List.map_toArray, List.map_cons, List.map_nil, hx, hy]
    go_simp
  unfold Oper.wp
  rw [e, Oper.upon_enter]
  refine hc.mono ?_
  rintro _ w' ⟨z, rfl, h⟩
  exact h
end
end Go.Proofs.YtepeolbbplodfaaGreatDoor
