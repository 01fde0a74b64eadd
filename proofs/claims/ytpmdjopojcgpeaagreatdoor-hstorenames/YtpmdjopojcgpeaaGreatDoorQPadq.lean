import Derived.Test.YtpmdjopojcgpeaaGreatDoorQWrq
import Derived.Deep.WholeRow
/-
  What is added behind a message: the program's way.
-/
namespace Go.Proofs.YtpmdjopojcgpeaaGreatDoor.Dg
open Go.RowKit

def zend (n : Nat) : Nat := if n % 64 < 56 then 56 - n % 64 else 120 - n % 64
def padb (n : Nat) (i : Nat) : Nat := if i = 0 then 128 else if zend n ≤ i ∧ i < zend n + 8 then (8 * n) / 2 ^ (56 - 8 * (i - zend n)) % 256 else 0
theorem padb_lt (n i : Nat) : padb n i < 256 := by
  unfold padb
  split
  · decide
  · split
    · exact Nat.mod_lt _ (by decide)
    · decide
def Z72 : Array Value := #[.int .u8 0, .int .u8 0, .int .u8 0, .int .u8 0, .int .u8 0, .int .u8 0, .int .u8 0, .int .u8 0, .int .u8 0, .int .u8 0, .int .u8 0, .int .u8 0, .int .u8 0, .int .u8 0, .int .u8 0, .int .u8 0, .int .u8 0, .int .u8 0, .int .u8 0, .int .u8 0, .int .u8 0, .int .u8 0, .int .u8 0, .int .u8 0, .int .u8 0, .int .u8 0, .int .u8 0, .int .u8 0, .int .u8 0, .int .u8 0, .int .u8 0, .int .u8 0, .int .u8 0, .int .u8 0, .int .u8 0, .int .u8 0, .int .u8 0, .int .u8 0, .int .u8 0, .int .u8 0, .int .u8 0, .int .u8 0, .int .u8 0, .int .u8 0, .int .u8 0, .int .u8 0, .int .u8 0, .int .u8 0, .int .u8 0, .int .u8 0, .int .u8 0, .int .u8 0, .int .u8 0, .int .u8 0, .int .u8 0, .int .u8 0, .int .u8 0, .int .u8 0, .int .u8 0, .int .u8 0, .int .u8 0, .int .u8 0, .int .u8 0, .int .u8 0, .int .u8 0, .int .u8 0, .int .u8 0, .int .u8 0, .int .u8 0, .int .u8 0, .int .u8 0, .int .u8 0]
theorem Z72_rep : Z72 = Array.replicate 72 (.int .u8 0) := by rfl
theorem info56 : (Tryz.prog.info? 218).map (fun i => (i.zero, i.size)) = some (some (.agg Z72), 72) := by kernel_rfl

/-- the answer's block, and the bytes on their way -/
structure Two72 (w wr : World) (f : Nat → Nat) : Prop where
  below : Below w.heap.size w wr
  size : wr.heap.size = w.heap.size + 2
  out : wr.rowIs w.heap.size 218 72 (fun _ => .int .u8 0)
  row : wr.rowIs (w.heap.size + 1) 218 72 (fun i => .int .u8 (f i))
theorem Two72.set {w wr : World} {f : Nat → Nat} (h : Two72 w wr f) (i v : Nat) : Two72 w (wr.setCell ⟨w.heap.size + 1, i, none⟩ (.int .u8 v)) (fun j => if j = i then v else f j) :=
  ⟨h.below.setCell (Nat.le_succ _) _, by simp [h.size], h.out.setOther (by show w.heap.size ≠ w.heap.size + 1; omega) _, (h.row.set i _).congr (fun j _ => by split <;> rfl)⟩
theorem Two72.congr {w wr : World} {f g : Nat → Nat} (h : Two72 w wr f) (e : ∀ i, i < 72 → f i = g i) : Two72 w wr g :=
  ⟨h.below, h.size, h.out, h.row.congr (fun i hi => by rw [e i hi])⟩
theorem two72_start (w : World) : Two72 w ((w.alloc (.cells Z72 218)).alloc (.cells Z72 218)) (fun _ => 0) := by
  rw [Z72_rep]
  refine ⟨((Below.refl _ _).alloc (Nat.le_refl _) _).alloc (by simp) _, by simp, (zeros_row w _ 72 218).alloc _, ?_⟩
  have h := zeros_row (w.alloc (.cells (Array.replicate 72 (.int .u8 0)) 218)) (.int .u8 0) 72 218
  rwa [World.size_alloc] at h

def pstep (z l k i : Nat) : Nat := if i = 0 then 128 else if z ≤ i ∧ i < z + k then l / 2 ^ (56 - 8 * (i - z)) % 256 else 0
theorem pstep_zero (z l i : Nat) : pstep z l 0 i = if i = 0 then 128 else 0 := by
  unfold pstep
  split
  · rfl
  · rw [if_neg (by omega)]
theorem pstep_next (z l k i : Nat) (hz : 1 ≤ z) : (if i = z + k then l / 2 ^ (56 - 8 * k) % 256 else pstep z l k i) = pstep z l (k + 1) i := by
  unfold pstep
  by_cases e : i = z + k
  · subst e
    rw [if_pos rfl, if_neg (by omega), if_pos ⟨by omega, by omega⟩, show z + k - z = k by omega]
  · rw [if_neg e]
    by_cases h0 : i = 0
    · rw [if_pos h0, if_pos h0]
    · rw [if_neg h0, if_neg h0]
      by_cases h1 : z ≤ i ∧ i < z + k
      · rw [if_pos h1, if_pos ⟨by omega, by omega⟩]
      · rw [if_neg h1, if_neg (by omega)]
theorem two72_first (w : World) : Two72 w ((w.alloc (.cells Z72 218)).alloc (.cells (Z72.setIfInBounds 0 (.int .u8 128)) 218)) (fun j => if j = 0 then 128 else 0) := by
  have h := (two72_start w).set 0 128
  rw [show w.heap.size + 1 = (w.alloc (.cells Z72 218)).heap.size by simp, World.setCell_alloc_at _ _ _ _ _ rfl] at h
  exact h
theorem results_cell_row2 {fn : Func} {p t : Tmp} {ty : TypeId} (h : fn.results = #[.cell p ty, .tmp t]) (tmps : Array Value) (w : World) (g : Nat) (cs : Array Value) (v : Value)
    (hp : tmps.getD p undef = .pointer (some ⟨g, 0, none⟩)) (ht : tmps.getD t undef = v) (hl : (loadVar ty ⟨g, 0, none⟩).run Tryz.prog w = .ok (.agg cs) w) :
    (results fn tmps).run Tryz.prog w = .ok (.tuple #[.agg cs, v]) w := by
  have hp' : tmps[p]?.getD undef = .pointer (some ⟨g, 0, none⟩) := by simpa using hp
  have ht' : tmps[t]?.getD undef = v := by simpa using ht
  simp [results, h, hp', ht', asAddr, hl]

set_option maxRecDepth 100000 in
set_option maxHeartbeats 4000000 in
theorem padding_any (w : World) (n : Nat) (hn : n ≤ 1152921504606846976) :
    Calls Tryz.prog 143 #[.int .i64 n] w fun e w' => (∃ cs : Array Value, e = .returned (.tuple #[.agg cs, .int .i64 ((zend n + 8 : Nat) : Int)]) ∧ cs.size = 72 ∧ ∀ i, i < 72 → cs[i]? = some (.int .u8 (padb n i))) ∧ Below w.heap.size w w' := by
  have z56 := (zero_of_info info56).1
  have T := two72_start w
  have c0 := T.row.cell (i := 0) (by omega)
  have f0 := T.row.frozen 0
  have HT : Hid (Two72 w ((w.alloc (.cells Z72 218)).alloc (.cells (Z72.setIfInBounds 0 (.int .u8 128)) 218)) (fun j => if j = 0 then 128 else 0)) := two72_first w
  clear T
  obtain ⟨l, hl⟩ : ∃ l, l = 8 * n := ⟨_, rfl⟩
  obtain ⟨z, hz⟩ : ∃ z, z = zend n := ⟨_, rfl⟩
  have HZ : Hid (z = zend n ∧ l = 8 * n) := ⟨hz, hl⟩
  have hl2 : l ≤ 9223372036854775808 := by omega
  have e1 : (8 : Int) * (n : Int) = (l : Int) := by omega
  have hz1 : 1 ≤ z := by rw [hz]; unfold zend; split <;> omega
  have hz2 : z ≤ 64 := by rw [hz]; unfold zend; split <;> omega
  by_cases hs : n % 64 < 56
  · have e2 : (56 : Int) - (n : Int) % 64 = (z : Int) := by
      rw [hz]; unfold zend; rw [if_pos hs]; omega
    have HE : Hid ((56 : Int) - (n : Int) % 64 = (z : Int) ∧ (8 : Int) * (n : Int) = (l : Int)) := ⟨e2, e1⟩
    clear e1 e2 hl hz
    go_enter Tryz.func143, Tryz.ntmps143
    go_wp2_with fail
    rw [HE.out.1, HE.out.2]
    clear c0 f0 z56
    go_loopg [19] 8 (fun g i wr => ∃ k : Nat, k ≤ 8 ∧ g = 8 - k ∧ i = .int .i64 k ∧ Two72 w wr (pstep z l k))
    case atStart => exact ⟨0, by omega, rfl, rfl, HT.out.congr (fun i _ => (pstep_zero z l i).symm)⟩
    case round =>
      obtain ⟨k, hk, rfl, rfl, hR⟩ := hrel
      clear HT
      by_cases hkn : k < 8
      · have cc := hR.row.cell (i := z + k) (by omega)
        have fz := hR.row.frozen (z + k)
        have HR : Hid (Two72 w wr (pstep z l k)) := hR
        clear hR
        go_wp2_with fail
        have V : ((l : Int) / 2 ^ (56 - 8 * k) % 256) = ((l / 2 ^ (56 - 8 * k) % 256 : Nat) : Int) := by simp
        rw [V]
        clear cc fz V
        go_roundg (8 - (k + 1))
        case measure => omega
        case rel => exact ⟨k + 1, by omega, rfl, by go_num, (HR.out.set (z + k) _).congr (fun i _ => pstep_next z l k i hz1)⟩
      · have : k = 8 := by omega
        subst this
        obtain ⟨cs, hg, hsz, hcs⟩ := hR.row
        obtain ⟨os, og, osz, _⟩ := hR.out
        have hi : (Tryz.prog.info? 218).map (·.size) = some cs.size := by rw [hsz]; exact (zero_of_info info56).2
        have h1 : cs.all (·.oneCell') = true := all_one (fun i hi => ⟨_, _, hcs i (by omega)⟩)
        have HR : Hid (Two72 w wr (pstep z l 8)) := hR
        clear hR
        go_wp2_with (first
          | refine wpList_load_row rfl 218 (.tmp 5) rfl (w.heap.size + 1) rfl 218 cs (0, 0) _ hg Tryz.underlying218 rfl hi ?_
          | refine wpList_store_row rfl 218 (.tmp 2) (.tmp 33) rfl w.heap.size cs rfl rfl 218 os og hi (by omega) h1 ?_)
        refine bodyPost_ret (v := .tuple #[.agg cs, .int .i64 ((z : Int) + 8)]) ?_ rfl ?_
        · refine results_cell_row2 (p := 2) (t := 3) (ty := 218) rfl _ _ w.heap.size cs _ ?_ ?_ (run_loadVar_row _ w.heap.size 218 218 cs (0, 0) _ (setRow_heap _ _ _ _ _ _ og) Tryz.underlying218 rfl hi)
          · rfl
          · rfl
        · refine ⟨⟨cs, by rw [← HZ.out.1], hsz, fun i hi => by rw [hcs i hi, HZ.out.1, HZ.out.2]; rfl⟩, below_setRow HR.out.below (Nat.le_refl _) _⟩
  · have e2 : (56 : Int) - (n : Int) % 64 + 64 = (z : Int) := by
      rw [hz]; unfold zend; rw [if_neg hs]; omega
    have HE : Hid ((56 : Int) - (n : Int) % 64 + 64 = (z : Int) ∧ (8 : Int) * (n : Int) = (l : Int)) := ⟨e2, e1⟩
    clear e1 e2 hl hz
    go_enter Tryz.func143, Tryz.ntmps143
    go_wp2_with fail
    rw [HE.out.1, HE.out.2]
    clear c0 f0 z56
    go_loopg [19] 8 (fun g i wr => ∃ k : Nat, k ≤ 8 ∧ g = 8 - k ∧ i = .int .i64 k ∧ Two72 w wr (pstep z l k))
    case atStart => exact ⟨0, by omega, rfl, rfl, HT.out.congr (fun i _ => (pstep_zero z l i).symm)⟩
    case round =>
      obtain ⟨k, hk, rfl, rfl, hR⟩ := hrel
      clear HT
      by_cases hkn : k < 8
      · have cc := hR.row.cell (i := z + k) (by omega)
        have fz := hR.row.frozen (z + k)
        have HR : Hid (Two72 w wr (pstep z l k)) := hR
        clear hR
        go_wp2_with fail
        have V : ((l : Int) / 2 ^ (56 - 8 * k) % 256) = ((l / 2 ^ (56 - 8 * k) % 256 : Nat) : Int) := by simp
        rw [V]
        clear cc fz V
        go_roundg (8 - (k + 1))
        case measure => omega
        case rel => exact ⟨k + 1, by omega, rfl, by go_num, (HR.out.set (z + k) _).congr (fun i _ => pstep_next z l k i hz1)⟩
      · have : k = 8 := by omega
        subst this
        obtain ⟨cs, hg, hsz, hcs⟩ := hR.row
        obtain ⟨os, og, osz, _⟩ := hR.out
        have hi : (Tryz.prog.info? 218).map (·.size) = some cs.size := by rw [hsz]; exact (zero_of_info info56).2
        have h1 : cs.all (·.oneCell') = true := all_one (fun i hi => ⟨_, _, hcs i (by omega)⟩)
        have HR : Hid (Two72 w wr (pstep z l 8)) := hR
        clear hR
        go_wp2_with (first
          | refine wpList_load_row rfl 218 (.tmp 5) rfl (w.heap.size + 1) rfl 218 cs (0, 0) _ hg Tryz.underlying218 rfl hi ?_
          | refine wpList_store_row rfl 218 (.tmp 2) (.tmp 33) rfl w.heap.size cs rfl rfl 218 os og hi (by omega) h1 ?_)
        refine bodyPost_ret (v := .tuple #[.agg cs, .int .i64 ((z : Int) + 8)]) ?_ rfl ?_
        · refine results_cell_row2 (p := 2) (t := 3) (ty := 218) rfl _ _ w.heap.size cs _ ?_ ?_ (run_loadVar_row _ w.heap.size 218 218 cs (0, 0) _ (setRow_heap _ _ _ _ _ _ og) Tryz.underlying218 rfl hi)
          · rfl
          · rfl
        · refine ⟨⟨cs, by rw [← HZ.out.1], hsz, fun i hi => by rw [hcs i hi, HZ.out.1, HZ.out.2]; rfl⟩, below_setRow HR.out.below (Nat.le_refl _) _⟩
end Go.Proofs.YtpmdjopojcgpeaaGreatDoor.Dg
