import Derived.Test.YtpmdjopojcgpeaaGreatDoorQNtsq
import Derived.Test.YtpmdjopojcgpeaaGreatDoorQGenq
import Derived.Laws.BitsAllLaws
import Derived.Deep.RegionHeld3
import Derived.Deep.MidRow
/-
  cut: the first n bits of 32 bytes.
-/
namespace Go.Proofs.YtpmdjopojcgpeaaGreatDoor.Dg
open Go.RowKit

/-- how many bits of byte i stay, and what is left of a byte -/
def stay (n : Int) (i : Nat) : Nat := (min (max (n - 8 * i) 0) 8).toNat
def keep (j x : Nat) : Nat := x - x % 2 ^ (8 - j)
def cutf (n : Int) (f : Nat → Nat) (i : Nat) : Nat := keep (stay n i) (f i)
theorem stay_le (n : Int) (i : Nat) : stay n i ≤ 8 := by unfold stay; omega
theorem keep_lt {j x : Nat} (h : x < 256) : keep j x < 256 := by unfold keep; omega
theorem cutf_lt {n : Int} {f : Nat → Nat} (h : ∀ i, f i < 256) (i : Nat) : cutf n f i < 256 := keep_lt (h i)
theorem keep_bits : ∀ j, j < 9 → ∀ x, x < 256 → x &&& (255 - 255 / 2 ^ j) = keep j x := by decide +kernel

theorem infoH : (Tryz.prog.info? 38).map (fun i => (i.zero, i.size)) = some (some (.agg Z32), 32) := by kernel_rfl
theorem hA_info {k : List Nat} (h : IsH k) : (Tryz.prog.info? 38).map (·.size) = some (hA k).size := by rw [hA_size h]; exact info26
theorem hA_one {k : List Nat} (h : IsH k) : (hA k).all (·.oneCell') = true := all_one (fun i hi => ⟨_, _, hA_cell h i (by rw [hA_size h] at hi; exact hi)⟩)
theorem hA_Z32 {k : List Nat} (h : IsH k) : Z32.size = (hA k).size := by rw [hA_size h]; rfl
theorem hashA_hA (s : W8) : hashA s = hA (lst 32 (hb s)) := hA_of (hashA_size s) (hashA_cell s)
theorem isH_hb (s : W8) : IsH (lst 32 (hb s)) := isH_lst (fun _ => Nat.mod_lt _ (by decide))
theorem Z32_hA : Z32 = hA (lst 32 (fun _ => 0)) := hA_of rfl (fun i hi => by rw [Z32_rep, Array.getElem?_replicate, if_pos hi]; rfl)

structure CF (w wr : World) (F : Nat → Nat) : Prop where
  below : Below w.heap.size w wr
  row : wr.rowIs w.heap.size 38 32 (fun i => .int .u8 (F i))
  out : wr.rowIs (w.heap.size + 1) 38 32 (fun _ => .int .u8 0)
theorem CF.set {w wr : World} {F : Nat → Nat} (h : CF w wr F) (i v : Nat) : CF w (wr.setCell ⟨w.heap.size, i, none⟩ (.int .u8 v)) (fun j => if j = i then v else F j) :=
  ⟨h.below.setCell (Nat.le_refl _) _, (h.row.set i _).congr (fun j _ => by split <;> rfl), h.out.setOther (by show w.heap.size + 1 ≠ w.heap.size; omega) _⟩
theorem CF.congr {w wr : World} {F G : Nat → Nat} (h : CF w wr F) (e : ∀ i, i < 32 → F i = G i) : CF w wr G := ⟨h.below, h.row.congr (fun i hi => by rw [e i hi]), h.out⟩
theorem CF.drew {w wr : World} {F : Nat → Nat} (h : CF w wr F) : CF w wr.drew F := ⟨h.below.drew, h.row.of_block rfl, h.out.of_block rfl⟩
theorem cf_start (w : World) {k : List Nat} (hk : IsH k) : CF w ((w.alloc (.cells (hA k) 38)).alloc (.cells Z32 38)) (gd k) := by
  have r := World.rowIs_alloc w (hA k) 38 (fun i => .int .u8 (gd k i)) (fun i hi => hA_cell hk i (by rw [hA_size hk] at hi; exact hi))
  rw [hA_size hk] at r
  have o : ((w.alloc (.cells (hA k) 38)).alloc (.cells Z32 38)).rowIs (w.heap.size + 1) 38 32 (fun _ => .int .u8 0) := by
    rw [Z32_rep]
    have := zeros_row (w.alloc (.cells (hA k) 38)) (.int .u8 0) 32 38
    rwa [World.size_alloc] at this
  exact ⟨((Below.refl _ _).alloc (Nat.le_refl _) _).alloc (by simp) _, r.alloc _, o⟩

theorem cut_cases (n j : Nat) : (n : Int) - 8 * (j : Int) < 0 ∨ (¬ ((n : Int) - 8 * (j : Int) < 0) ∧ 8 < (n : Int) - 8 * (j : Int)) ∨ ∃ s : Nat, s < 9 ∧ (n : Int) - 8 * (j : Int) = (s : Int) := by
  by_cases h1 : (n : Int) - 8 * (j : Int) < 0
  · exact Or.inl h1
  · by_cases h2 : 8 < (n : Int) - 8 * (j : Int)
    · exact Or.inr (Or.inl ⟨h1, h2⟩)
    · exact Or.inr (Or.inr ⟨n - 8 * j, by omega, by omega⟩)
set_option maxRecDepth 100000 in
set_option maxHeartbeats 1600000 in
theorem cut_any (w : World) (k : List Nat) (hk : IsH k) (n : Nat) (hn : n ≤ 256) :
    Calls Tryz.prog 56 #[.agg (hA k), .int .i64 n] w fun e w' => e = .returned (.agg (hA (lst 32 (cutf n (gd k))))) ∧ Below w.heap.size w w' := by
  have z64 := (zero_of_info infoH).1
  have HM : Hid (CF w ((w.alloc (.cells (hA k) 38)).alloc (.cells Z32 38)) (gd k)) := cf_start w hk
  have bs := hA_size hk
  go_enter Tryz.func56, Tryz.ntmps56
  go_wp2_with fail
  go_loopg [7] 32 (fun g i wr => ∃ j : Nat, j ≤ 32 ∧ g = 32 - j ∧ i = .int .i64 j ∧ CF w wr (fun i => if i < j then cutf n (gd k) i else gd k i))
  case atStart => exact ⟨0, by omega, rfl, rfl, HM.out.congr (fun i _ => by simp)⟩
  case round =>
    obtain ⟨j, hj, rfl, rfl, hR⟩ := hrel
    clear HM
    by_cases hjn : j < 32
    · have cc := hR.row.cell (i := j) hjn
      have fz := hR.row.frozen j
      simp only [Nat.lt_irrefl, if_false] at cc
      have hb := gd_lt hk.2 j
      obtain ⟨z, hz⟩ : ∃ z, z = gd k j := ⟨_, rfl⟩
      rw [← hz] at cc hb
      have Hz : Hid (z = gd k j) := hz
      have HR : Hid (CF w wr (fun i => if i < j then cutf n (gd k) i else gd k i)) := hR
      clear hR hz
      have HK : Hid (∀ q, q < 9 → bits .andNot .u8 (z : Int) ((255 / 2 ^ q : Nat) : Int) = ((keep q z : Nat) : Int)) := fun q hq => by
        rw [← keep_bits q hq z hb]
        exact u8_andNot_nat z (255 / 2 ^ q) hb (Nat.lt_of_le_of_lt (Nat.div_le_self _ _) (by decide))
      rcases (cut_cases n j : (n : Int) - 8 * (j : Int) < 0 ∨ (¬ ((n : Int) - 8 * (j : Int) < 0) ∧ 8 < (n : Int) - 8 * (j : Int)) ∨ ∃ s : Nat, s < 9 ∧ (n : Int) - 8 * (j : Int) = (s : Int)) with d | ⟨d, d2⟩ | ⟨s, hs, d⟩
      · skip
        have hbit : bits .andNot .u8 (z : Int) 255 = ((keep 0 z : Nat) : Int) := HK.out 0 (by decide)
        have HS : Hid (stay n j = 0) := by show stay n j = 0; unfold stay; omega
        go_wp2_with fail
        go_region
        go_wp2_with fail
        go_roundg (32 - (j + 1))
        case measure => omega
        case rel =>
          refine ⟨j + 1, by omega, rfl, by go_num, (HR.out.drew.set j _).congr (fun i _ => ?_)⟩
          by_cases e : i = j
          · subst e
            rw [if_pos rfl, if_pos (by omega)]
            unfold cutf
            rw [HS.out, Hz.out]
          · rw [if_neg e]
            by_cases l : i < j
            · rw [if_pos l, if_pos (by omega)]
            · rw [if_neg l, if_neg (by omega)]
      · skip
        have hbit : bits .andNot .u8 (z : Int) 0 = ((keep 8 z : Nat) : Int) := HK.out 8 (by decide)
        have HS : Hid (stay n j = 8) := by show stay n j = 8; unfold stay; omega
        go_wp2_with fail
        go_region
        go_wp2_with fail
        go_roundg (32 - (j + 1))
        case measure => omega
        case rel =>
          refine ⟨j + 1, by omega, rfl, by go_num, (HR.out.drew.set j _).congr (fun i _ => ?_)⟩
          by_cases e : i = j
          · subst e
            rw [if_pos rfl, if_pos (by omega)]
            unfold cutf
            rw [HS.out, Hz.out]
          · rw [if_neg e]
            by_cases l : i < j
            · rw [if_pos l, if_pos (by omega)]
            · rw [if_neg l, if_neg (by omega)]
      · have d2 : ¬ ((s : Int) < 0) := by omega
        have d3 : ¬ (8 < (s : Int)) := by omega
        have d4 : (s : Int) ≤ 8 := by omega
        have hbit : bits .andNot .u8 (z : Int) ((255 : Int) / 2 ^ s) = ((keep s z : Nat) : Int) := by
          have := HK.out s hs
          simpa using this
        have HS : Hid (stay n j = s) := by show stay n j = s; unfold stay; omega
        go_wp2_with fail
        go_region
        go_wp2_with fail
        go_roundg (32 - (j + 1))
        case measure => omega
        case rel =>
          refine ⟨j + 1, by omega, rfl, by go_num, (HR.out.drew.set j _).congr (fun i _ => ?_)⟩
          by_cases e : i = j
          · subst e
            rw [if_pos rfl, if_pos (by omega)]
            unfold cutf
            rw [HS.out, Hz.out]
          · rw [if_neg e]
            by_cases l : i < j
            · rw [if_pos l, if_pos (by omega)]
            · rw [if_neg l, if_neg (by omega)]
    · have : j = 32 := by omega
      subst this
      obtain ⟨cs, hg, hsz, hcs⟩ := hR.row
      obtain ⟨os, og, osz, _⟩ := hR.out
      have hi : (Tryz.prog.info? 38).map (·.size) = some cs.size := by rw [hsz]; exact info26
      have h1 : cs.all (·.oneCell') = true := all_one (fun i hi => ⟨_, _, hcs i (by omega)⟩)
      have HR : Hid (CF w wr (fun i => if i < 32 then cutf n (gd k) i else gd k i)) := hR
      have HC : Hid (cs = hA (lst 32 (cutf n (gd k)))) := hA_of hsz (fun i hi => by rw [hcs i hi]; simp only [if_pos hi])
      clear hR hcs
      go_wp2_with (first
        | refine wpList_load_row rfl 38 (.tmp 2) rfl w.heap.size rfl 38 cs (0, 0) _ hg Tryz.underlying38 rfl hi ?_
        | refine wpList_store_row rfl 38 (.tmp 4) (.tmp 24) rfl (w.heap.size + 1) cs rfl rfl 38 os og hi (by omega) h1 ?_)
      refine bodyPost_ret (v := .agg cs) ?_ rfl ?_
      · exact results_cell_row rfl _ _ (w.heap.size + 1) 38 cs (0, 0) _ rfl (setRow_heap _ _ _ _ _ _ og) Tryz.underlying38 rfl hi
      · exact ⟨by rw [← HC.out], below_setRow HR.out.below (by omega) _⟩
end Go.Proofs.YtpmdjopojcgpeaaGreatDoor.Dg

/-
  mac: the block of a secret, and a block with a mask.
-/
namespace Go.Proofs.YtpmdjopojcgpeaaGreatDoor.Dg
open Go.RowKit

def Y64 : Array Value := #[.int .u8 0, .int .u8 0, .int .u8 0, .int .u8 0, .int .u8 0, .int .u8 0, .int .u8 0, .int .u8 0, .int .u8 0, .int .u8 0, .int .u8 0, .int .u8 0, .int .u8 0, .int .u8 0, .int .u8 0, .int .u8 0, .int .u8 0, .int .u8 0, .int .u8 0, .int .u8 0, .int .u8 0, .int .u8 0, .int .u8 0, .int .u8 0, .int .u8 0, .int .u8 0, .int .u8 0, .int .u8 0, .int .u8 0, .int .u8 0, .int .u8 0, .int .u8 0, .int .u8 0, .int .u8 0, .int .u8 0, .int .u8 0, .int .u8 0, .int .u8 0, .int .u8 0, .int .u8 0, .int .u8 0, .int .u8 0, .int .u8 0, .int .u8 0, .int .u8 0, .int .u8 0, .int .u8 0, .int .u8 0, .int .u8 0, .int .u8 0, .int .u8 0, .int .u8 0, .int .u8 0, .int .u8 0, .int .u8 0, .int .u8 0, .int .u8 0, .int .u8 0, .int .u8 0, .int .u8 0, .int .u8 0, .int .u8 0, .int .u8 0, .int .u8 0]
theorem Y64_rep : Y64 = Array.replicate 64 (.int .u8 0) := by rfl
theorem info64 : (Tryz.prog.info? 215).map (fun i => (i.zero, i.size)) = some (some (.agg Y64), 64) := by kernel_rfl
theorem info64s : (Tryz.prog.info? 215).map (·.size) = some 64 := by kernel_rfl

/-- sixty-four bytes as a value -/
def blkA (B : Nat → Nat) : Array Value := ((List.range 64).map (fun i => Value.int .u8 (B i))).toArray
theorem blkA_size (B : Nat → Nat) : (blkA B).size = 64 := by simp [blkA]
theorem blkA_cell (B : Nat → Nat) : ∀ i, i < 64 → (blkA B)[i]? = some (.int .u8 (B i)) := by
  intro i hi
  unfold blkA
  rw [List.getElem?_toArray, List.getElem?_map, List.getElem?_range hi]
  rfl
theorem blkA_of {cs : Array Value} {B : Nat → Nat} (h : cs.size = 64) (hc : ∀ i, i < 64 → cs[i]? = some (.int .u8 (B i))) : cs = blkA B := by
  apply Array.ext_getElem?
  intro i
  by_cases hi : i < 64
  · rw [hc i hi, blkA_cell B i hi]
  · rw [Array.getElem?_eq_none (by omega), Array.getElem?_eq_none (by rw [blkA_size]; omega)]
theorem blkA_congr {B C : Nat → Nat} (h : ∀ i, i < 64 → B i = C i) : blkA B = blkA C := blkA_of (blkA_size B) (fun i hi => by rw [blkA_cell B i hi, h i hi])
theorem blkA_info (B : Nat → Nat) : (Tryz.prog.info? 215).map (·.size) = some (blkA B).size := by rw [blkA_size]; exact info64s
theorem blkA_one (B : Nat → Nat) : (blkA B).all (·.oneCell') = true := all_one (fun i hi => ⟨_, _, blkA_cell _ i (by rw [blkA_size] at hi; exact hi)⟩)
theorem Y64_blk (B : Nat → Nat) : Y64.size = (blkA B).size := by rw [blkA_size]; rfl

/-- each byte with x -/
def msk (x : Nat) (B : Nat → Nat) (i : Nat) : Nat := B i ^^^ x
theorem msk_lt {x : Nat} {B : Nat → Nat} (hx : x < 256) (hB : ∀ i, B i < 256) (i : Nat) : msk x B i < 256 := Nat.xor_lt_two_pow (n := 8) (hB i) hx
structure MF (w wr : World) (F : Nat → Nat) : Prop where
  below : Below w.heap.size w wr
  row : wr.rowIs w.heap.size 215 64 (fun i => .int .u8 (F i))
  out : wr.rowIs (w.heap.size + 1) 215 64 (fun _ => .int .u8 0)
theorem MF.set {w wr : World} {F : Nat → Nat} (h : MF w wr F) (i v : Nat) : MF w (wr.setCell ⟨w.heap.size, i, none⟩ (.int .u8 v)) (fun j => if j = i then v else F j) :=
  ⟨h.below.setCell (Nat.le_refl _) _, (h.row.set i _).congr (fun j _ => by split <;> rfl), h.out.setOther (by show w.heap.size + 1 ≠ w.heap.size; omega) _⟩
theorem MF.congr {w wr : World} {F G : Nat → Nat} (h : MF w wr F) (e : ∀ i, i < 64 → F i = G i) : MF w wr G := ⟨h.below, h.row.congr (fun i hi => by rw [e i hi]), h.out⟩
theorem mf_start (w : World) (B : Nat → Nat) : MF w ((w.alloc (.cells (blkA B) 215)).alloc (.cells Y64 215)) B := by
  have r := World.rowIs_alloc w (blkA B) 215 (fun i => .int .u8 (B i)) (fun i hi => blkA_cell B i (by rw [blkA_size] at hi; exact hi))
  rw [blkA_size] at r
  have o : ((w.alloc (.cells (blkA B) 215)).alloc (.cells Y64 215)).rowIs (w.heap.size + 1) 215 64 (fun _ => .int .u8 0) := by
    rw [Y64_rep]
    have := zeros_row (w.alloc (.cells (blkA B) 215)) (.int .u8 0) 64 215
    rwa [World.size_alloc] at this
  exact ⟨((Below.refl _ _).alloc (Nat.le_refl _) _).alloc (by simp) _, r.alloc _, o⟩

end Go.Proofs.YtpmdjopojcgpeaaGreatDoor.Dg

/-
  The law's rest, and rows that are made.
-/
namespace Go.Proofs.YtpmdjopojcgpeaaGreatDoor.Dg
open Go.RowKit

theorem rest_eq (n m : Int) (hm : 0 < m) : (n.tmod m + m).tmod m = n % m := by
  have h1 := Int.tmod_add_mul_tdiv n m
  have h2 : -m < n.tmod m := by
    have := Int.lt_tmod_of_pos n hm
    exact this
  have h3 : n.tmod m < m := Int.tmod_lt_of_pos n hm
  rw [Int.tmod_eq_emod_of_nonneg (by omega), Int.add_emod_right]
  have e : n = n.tmod m + m * n.tdiv m := by omega
  conv => rhs; rw [e]
  rw [Int.add_mul_emod_self_left]

/-- a row of bytes that the law has made -/
structure Mk (w wr : World) (g n : Nat) (f : Nat → Nat) : Prop where
  below : Below w.heap.size w wr
  lo : w.heap.size ≤ g
  row : wr.rowIs g 5 n (fun i => .int .u8 (f i))
theorem Mk.set {w wr : World} {g n : Nat} {f : Nat → Nat} (h : Mk w wr g n f) (i v : Nat) : Mk w (wr.setCell ⟨g, i, none⟩ (.int .u8 v)) g n (fun j => if j = i then v else f j) :=
  ⟨h.below.setCell h.lo _, h.lo, (h.row.set i _).congr (fun j _ => by split <;> rfl)⟩
theorem Mk.congr {w wr : World} {g n : Nat} {f f' : Nat → Nat} (h : Mk w wr g n f) (e : ∀ i, i < n → f i = f' i) : Mk w wr g n f' :=
  ⟨h.below, h.lo, h.row.congr (fun i hi => by rw [e i hi])⟩
theorem Mk.step {w wr w' : World} {g n : Nat} {f : Nat → Nat} (h : Mk w wr g n f) (hb : Below wr.heap.size wr w') : Mk w w' g n f :=
  ⟨h.below.trans (hb.mono h.below.size), h.lo, h.row.of_block (hb.block _ h.row.lt)⟩
theorem Mk.save {w wr w' : World} {g n p : Nat} {f : Nat → Nat} (h : Mk w wr g n f) (hs : Save p wr w') (hp : w.heap.size ≤ p) (hgp : g ≠ p) : Mk w w' g n f :=
  ⟨h.below.trans (hs.below hp h.below.size), h.lo, hs.row h.row hgp⟩
theorem mk_made {w w1 : World} (hb : Below w.heap.size w w1) (n : Nat) : Mk w (w1.alloc (.cells (madeCells #[.int .u8 0] n) 5)) w1.heap.size n (fun _ => 0) :=
  ⟨hb.alloc hb.size _, hb.size, World.rowIs_made w1 _ n 5⟩
theorem Mk.view {w wr : World} {g n : Nat} {f : Nat → Nat} (h : Mk w wr g n f) (hf : ∀ i, f i < 256) (i k : Nat) (hik : i + k ≤ n) (hn : n ≤ 281474976710656) : View wr (some ⟨g, i, none⟩) g i k (fun j => (f (i + j) : Int)) :=
  ⟨fun _ => rfl, fun j hj => h.row.cell (by omega), fun j hj => by have := hf (i + j); omega, by omega⟩
def hashL (s : W8) : List Value := (List.range 32).map (fun i => Value.int .u8 (hb s i))
theorem hashL_len (s : W8) : (Tryz.prog.info? 38).map (·.size) = some (hashL s).length := by
  unfold hashL
  simp only [List.length_map, List.length_range]
  exact info26
theorem HashAt.range {w : World} {g : Nat} {s : W8} (h : HashAt w g s) : w.rangeAt g 0 (hashL s) := by
  intro j v hj
  have hl : j < 32 := by
    have := (List.getElem?_eq_some_iff.1 hj).1
    simpa [hashL] using this
  rw [Nat.zero_add, h.cells j (by rw [hashA_size]; exact hl), hashA_cell s j hl]
  unfold hashL at hj
  rw [List.getElem?_map, List.getElem?_range hl] at hj
  exact hj
theorem eq_hashL (w : World) (s : W8) : (Op.equalIn 10000 38 (.agg (hashL s).toArray) (.agg (hashA s))).run Tryz.prog w = .ok true w := eq_hashA w s
end Go.Proofs.YtpmdjopojcgpeaaGreatDoor.Dg
