import Derived.Test.YtlhllbggnpcoaaaDoorGen
/-
  mac: the block of a secret, and a block with a mask.
-/
namespace Go.Proofs.YtlhllbggnpcoaaaDoor
open Go.RowKit

def Y64 : Array Value := #[.int .u8 0, .int .u8 0, .int .u8 0, .int .u8 0, .int .u8 0, .int .u8 0, .int .u8 0, .int .u8 0, .int .u8 0, .int .u8 0, .int .u8 0, .int .u8 0, .int .u8 0, .int .u8 0, .int .u8 0, .int .u8 0, .int .u8 0, .int .u8 0, .int .u8 0, .int .u8 0, .int .u8 0, .int .u8 0, .int .u8 0, .int .u8 0, .int .u8 0, .int .u8 0, .int .u8 0, .int .u8 0, .int .u8 0, .int .u8 0, .int .u8 0, .int .u8 0, .int .u8 0, .int .u8 0, .int .u8 0, .int .u8 0, .int .u8 0, .int .u8 0, .int .u8 0, .int .u8 0, .int .u8 0, .int .u8 0, .int .u8 0, .int .u8 0, .int .u8 0, .int .u8 0, .int .u8 0, .int .u8 0, .int .u8 0, .int .u8 0, .int .u8 0, .int .u8 0, .int .u8 0, .int .u8 0, .int .u8 0, .int .u8 0, .int .u8 0, .int .u8 0, .int .u8 0, .int .u8 0, .int .u8 0, .int .u8 0, .int .u8 0, .int .u8 0]
theorem Y64_rep : Y64 = Array.replicate 64 (.int .u8 0) := by rfl
theorem info64 : (Tryd.prog.info? 95).map (fun i => (i.zero, i.size)) = some (some (.agg Y64), 64) := by kernel_rfl
theorem info64s : (Tryd.prog.info? 95).map (·.size) = some 64 := by kernel_rfl

/-- sixty-four bytes as a value -/
def blkA (B : Nat → Nat) : Array Value := ((List.range 64).map (fun i => Value.int .u8 (B i))).toArray
theorem blkA_size (B : Nat → Nat) : (blkA B).size = 64 := by simp [blkA]
theorem blkA_cell (B : Nat → Nat) : ∀ i, i < 64 → (blkA B)[i]? = some (.int .u8 (B i)) := by
  intro i hi
  unfold blkA
  rw [List.getElem?_toArray, List.getElem?_map, List.getElem?_range hi]
  rfl
theorem blkA_of {cs : Array Value} {B : Nat → Nat} (h : cs.size = 64) (hc : ∀ i, i < 64 → cs[i]? = some (.int .u8 (B i))) : cs = blkA B := by
  apply Array.ext_getElem?
  intro i
  by_cases hi : i < 64
  · rw [hc i hi, blkA_cell B i hi]
  · rw [Array.getElem?_eq_none (by omega), Array.getElem?_eq_none (by rw [blkA_size]; omega)]
theorem blkA_congr {B C : Nat → Nat} (h : ∀ i, i < 64 → B i = C i) : blkA B = blkA C := blkA_of (blkA_size B) (fun i hi => by rw [blkA_cell B i hi, h i hi])
theorem blkA_info (B : Nat → Nat) : (Tryd.prog.info? 95).map (·.size) = some (blkA B).size := by rw [blkA_size]; exact info64s
theorem blkA_one (B : Nat → Nat) : (blkA B).all (·.oneCell') = true := all_one (fun i hi => ⟨_, _, blkA_cell _ i (by rw [blkA_size] at hi; exact hi)⟩)
theorem Y64_blk (B : Nat → Nat) : Y64.size = (blkA B).size := by rw [blkA_size]; rfl

/-- each byte with x -/
def msk (x : Nat) (B : Nat → Nat) (i : Nat) : Nat := B i ^^^ x
theorem msk_lt {x : Nat} {B : Nat → Nat} (hx : x < 256) (hB : ∀ i, B i < 256) (i : Nat) : msk x B i < 256 := Nat.xor_lt_two_pow (n := 8) (hB i) hx
structure MF (w wr : World) (F : Nat → Nat) : Prop where
  below : Below w.heap.size w wr
  row : wr.rowIs w.heap.size 95 64 (fun i => .int .u8 (F i))
  out : wr.rowIs (w.heap.size + 1) 95 64 (fun _ => .int .u8 0)
theorem MF.set {w wr : World} {F : Nat → Nat} (h : MF w wr F) (i v : Nat) : MF w (wr.setCell ⟨w.heap.size, i, none⟩ (.int .u8 v)) (fun j => if j = i then v else F j) :=
  ⟨h.below.setCell (Nat.le_refl _) _, (h.row.set i _).congr (fun j _ => by split <;> rfl), h.out.setOther (by show w.heap.size + 1 ≠ w.heap.size; omega) _⟩
theorem MF.congr {w wr : World} {F G : Nat → Nat} (h : MF w wr F) (e : ∀ i, i < 64 → F i = G i) : MF w wr G := ⟨h.below, h.row.congr (fun i hi => by rw [e i hi]), h.out⟩
theorem mf_start (w : World) (B : Nat → Nat) : MF w ((w.alloc (.cells (blkA B) 95)).alloc (.cells Y64 95)) B := by
  have r := World.rowIs_alloc w (blkA B) 95 (fun i => .int .u8 (B i)) (fun i hi => blkA_cell B i (by rw [blkA_size] at hi; exact hi))
  rw [blkA_size] at r
  have o : ((w.alloc (.cells (blkA B) 95)).alloc (.cells Y64 95)).rowIs (w.heap.size + 1) 95 64 (fun _ => .int .u8 0) := by
    rw [Y64_rep]
    have := zeros_row (w.alloc (.cells (blkA B) 95)) (.int .u8 0) 64 95
    rwa [World.size_alloc] at this
  exact ⟨((Below.refl _ _).alloc (Nat.le_refl _) _).alloc (by simp) _, r.alloc _, o⟩

set_option maxRecDepth 100000 in
set_option maxHeartbeats 1600000 in
theorem masked_any (w : World) (B : Nat → Nat) (hB : ∀ i, B i < 256) (x : Nat) (hx : x < 256) :
    Calls Tryd.prog 87 #[.agg (blkA B), .int .u8 x] w fun e w' => e = .returned (.agg (blkA (msk x B))) ∧ Below w.heap.size w w' := by
  have z64 := (zero_of_info info64).1
  have HM : Hid (MF w ((w.alloc (.cells (blkA B) 95)).alloc (.cells Y64 95)) B) := mf_start w B
  have bs := blkA_size B
  go_enter Tryd.func87, Tryd.ntmps87
  go_wp2_with fail
  go_loopg [6] 64 (fun g i wr => ∃ k : Nat, k ≤ 64 ∧ g = 64 - k ∧ i = .int .i64 k ∧ MF w wr (fun j => if j < k then msk x B j else B j))
  case atStart => exact ⟨0, by omega, rfl, rfl, HM.out.congr (fun i _ => by simp)⟩
  case round =>
    obtain ⟨k, hk, rfl, rfl, hR⟩ := hrel
    clear HM
    by_cases hkn : k < 64
    · have cc := hR.row.cell (i := k) hkn
      have fz := hR.row.frozen k
      simp only [Nat.lt_irrefl, if_false] at cc
      have hb := hB k
      obtain ⟨z, hz⟩ : ∃ z, z = B k := ⟨_, rfl⟩
      rw [← hz] at cc hb
      have Hz : Hid (z = B k) := hz
      have HR : Hid (MF w wr (fun j => if j < k then msk x B j else B j)) := hR
      have hxx := u8_xor_nat z x hb hx
      clear hR hz
      go_wp2_with fail
      go_roundg (64 - (k + 1))
      case measure => omega
      case rel =>
        refine ⟨k + 1, by omega, rfl, by go_num, (HR.out.set k _).congr (fun i _ => ?_)⟩
        by_cases e : i = k
        · subst e
          rw [if_pos rfl, if_pos (by omega), Hz.out]
          rfl
        · rw [if_neg e]
          by_cases l : i < k
          · rw [if_pos l, if_pos (by omega)]
          · rw [if_neg l, if_neg (by omega)]
    · have : k = 64 := by omega
      subst this
      obtain ⟨cs, hg, hsz, hcs⟩ := hR.row
      obtain ⟨os, og, osz, _⟩ := hR.out
      have hi : (Tryd.prog.info? 95).map (·.size) = some cs.size := by rw [hsz]; exact info64s
      have h1 : cs.all (·.oneCell') = true := all_one (fun i hi => ⟨_, _, hcs i (by omega)⟩)
      have HR : Hid (MF w wr (fun j => if j < 64 then msk x B j else B j)) := hR
      have HC : Hid (cs = blkA (msk x B)) := blkA_of hsz (fun i hi => by rw [hcs i hi]; simp only [if_pos hi])
      clear hR hcs
      go_wp2_with (first
        | refine wpList_load_row rfl 95 (.tmp 2) rfl w.heap.size rfl 95 cs (0, 0) _ hg Tryd.underlying95 rfl hi ?_
        | refine wpList_store_row rfl 95 (.tmp 4) (.tmp 16) rfl (w.heap.size + 1) cs rfl rfl 95 os og hi (by omega) h1 ?_)
      refine bodyPost_ret (v := .agg cs) ?_ rfl ?_
      · exact results_cell_row rfl _ _ (w.heap.size + 1) 95 cs (0, 0) _ rfl (setRow_heap _ _ _ _ _ _ og) Tryd.underlying95 rfl hi
      · exact ⟨by rw [← HC.out], below_setRow HR.out.below (by omega) _⟩
end Go.Proofs.YtlhllbggnpcoaaaDoor
