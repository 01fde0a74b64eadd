import Derived.Test.YtadcbhjmbgenbaaDoorNtsq
import Derived.Test.YtadcbhjmbgenbaaDoorGenq
import Derived.Laws.BitsAllLaws
/-
  cut: the first n bits of 32 bytes.
-/
namespace Go.Proofs.YtadcbhjmbgenbaaDoor
open Go.RowKit

/-- how many bits of byte i stay, and what is left of a byte -/
def stay (n : Int) (i : Nat) : Nat := (min (max (n - 8 * i) 0) 8).toNat
def keep (j x : Nat) : Nat := x - x % 2 ^ (8 - j)
def cutf (n : Int) (f : Nat → Nat) (i : Nat) : Nat := keep (stay n i) (f i)
theorem stay_le (n : Int) (i : Nat) : stay n i ≤ 8 := by unfold stay; omega
theorem keep_lt {j x : Nat} (h : x < 256) : keep j x < 256 := by unfold keep; omega
theorem cutf_lt {n : Int} {f : Nat → Nat} (h : ∀ i, f i < 256) (i : Nat) : cutf n f i < 256 := keep_lt (h i)
theorem keep_bits : ∀ j, j < 9 → ∀ x, x < 256 → x &&& (255 - 255 / 2 ^ j) = keep j x := by decide +kernel

theorem infoH : (Tryd.prog.info? 31).map (fun i => (i.zero, i.size)) = some (some (.agg Z32), 32) := by kernel_rfl
theorem hA_info {k : List Nat} (h : IsH k) : (Tryd.prog.info? 31).map (·.size) = some (hA k).size := by rw [hA_size h]; exact info26
theorem hA_one {k : List Nat} (h : IsH k) : (hA k).all (·.oneCell') = true := all_one (fun i hi => ⟨_, _, hA_cell h i (by rw [hA_size h] at hi; exact hi)⟩)
theorem hA_Z32 {k : List Nat} (h : IsH k) : Z32.size = (hA k).size := by rw [hA_size h]; rfl
theorem hashA_hA (s : W8) : hashA s = hA (lst 32 (hb s)) := hA_of (hashA_size s) (hashA_cell s)
theorem isH_hb (s : W8) : IsH (lst 32 (hb s)) := isH_lst (fun _ => Nat.mod_lt _ (by decide))
theorem Z32_hA : Z32 = hA (lst 32 (fun _ => 0)) := hA_of rfl (fun i hi => by rw [Z32_rep, Array.getElem?_replicate, if_pos hi]; rfl)

structure CF (w wr : World) (F : Nat → Nat) : Prop where
  below : Below w.heap.size w wr
  row : wr.rowIs w.heap.size 31 32 (fun i => .int .u8 (F i))
  out : wr.rowIs (w.heap.size + 1) 31 32 (fun _ => .int .u8 0)
theorem CF.set {w wr : World} {F : Nat → Nat} (h : CF w wr F) (i v : Nat) : CF w (wr.setCell ⟨w.heap.size, i, none⟩ (.int .u8 v)) (fun j => if j = i then v else F j) :=
  ⟨h.below.setCell (Nat.le_refl _) _, (h.row.set i _).congr (fun j _ => by split <;> rfl), h.out.setOther (by show w.heap.size + 1 ≠ w.heap.size; omega) _⟩
theorem CF.congr {w wr : World} {F G : Nat → Nat} (h : CF w wr F) (e : ∀ i, i < 32 → F i = G i) : CF w wr G := ⟨h.below, h.row.congr (fun i hi => by rw [e i hi]), h.out⟩
theorem CF.drew {w wr : World} {F : Nat → Nat} (h : CF w wr F) : CF w wr.drew F := ⟨h.below.drew, h.row.of_block rfl, h.out.of_block rfl⟩
theorem cf_start (w : World) {k : List Nat} (hk : IsH k) : CF w ((w.alloc (.cells (hA k) 31)).alloc (.cells Z32 31)) (gd k) := by
  have r := World.rowIs_alloc w (hA k) 31 (fun i => .int .u8 (gd k i)) (fun i hi => hA_cell hk i (by rw [hA_size hk] at hi; exact hi))
  rw [hA_size hk] at r
  have o : ((w.alloc (.cells (hA k) 31)).alloc (.cells Z32 31)).rowIs (w.heap.size + 1) 31 32 (fun _ => .int .u8 0) := by
    rw [Z32_rep]
    have := zeros_row (w.alloc (.cells (hA k) 31)) (.int .u8 0) 32 31
    rwa [World.size_alloc] at this
  exact ⟨((Below.refl _ _).alloc (Nat.le_refl _) _).alloc (by simp) _, r.alloc _, o⟩

theorem cut_cases (n j : Nat) : (n : Int) - 8 * (j : Int) < 0 ∨ (¬ ((n : Int) - 8 * (j : Int) < 0) ∧ 8 < (n : Int) - 8 * (j : Int)) ∨ ∃ s : Nat, s < 9 ∧ (n : Int) - 8 * (j : Int) = (s : Int) := by
  by_cases h1 : (n : Int) - 8 * (j : Int) < 0
  · exact Or.inl h1
  · by_cases h2 : 8 < (n : Int) - 8 * (j : Int)
    · exact Or.inr (Or.inl ⟨h1, h2⟩)
    · exact Or.inr (Or.inr ⟨n - 8 * j, by omega, by omega⟩)
set_option maxRecDepth 100000 in
set_option maxHeartbeats 1600000 in
theorem cut_any (w : World) (k : List Nat) (hk : IsH k) (n : Nat) (hn : n ≤ 256) :
    Calls Tryd.prog 23 #[.agg (hA k), .int .i64 n] w fun e w' => e = .returned (.agg (hA (lst 32 (cutf n (gd k))))) ∧ Below w.heap.size w w' := by
  have z64 := (zero_of_info infoH).1
  have HM : Hid (CF w ((w.alloc (.cells (hA k) 31)).alloc (.cells Z32 31)) (gd k)) := cf_start w hk
  have bs := hA_size hk
  go_enter Tryd.func23, Tryd.ntmps23
  go_wp2_with fail
  go_loopg [7] 32 (fun g i wr => ∃ j : Nat, j ≤ 32 ∧ g = 32 - j ∧ i = .int .i64 j ∧ CF w wr (fun i => if i < j then cutf n (gd k) i else gd k i))
  case atStart => exact ⟨0, by omega, rfl, rfl, HM.out.congr (fun i _ => by simp)⟩
  case round =>
    obtain ⟨j, hj, rfl, rfl, hR⟩ := hrel
    clear HM
    by_cases hjn : j < 32
    · have cc := hR.row.cell (i := j) hjn
      have fz := hR.row.frozen j
      simp only [Nat.lt_irrefl, if_false] at cc
      have hb := gd_lt hk.2 j
      obtain ⟨z, hz⟩ : ∃ z, z = gd k j := ⟨_, rfl⟩
      rw [← hz] at cc hb
      have Hz : Hid (z = gd k j) := hz
      have HR : Hid (CF w wr (fun i => if i < j then cutf n (gd k) i else gd k i)) := hR
      clear hR hz
      have HK : Hid (∀ q, q < 9 → bits .andNot .u8 (z : Int) ((255 / 2 ^ q : Nat) : Int) = ((keep q z : Nat) : Int)) := fun q hq => by
        rw [← keep_bits q hq z hb]
        exact u8_andNot_nat z (255 / 2 ^ q) hb (Nat.lt_of_le_of_lt (Nat.div_le_self _ _) (by decide))
      rcases (cut_cases n j : (n : Int) - 8 * (j : Int) < 0 ∨ (¬ ((n : Int) - 8 * (j : Int) < 0) ∧ 8 < (n : Int) - 8 * (j : Int)) ∨ ∃ s : Nat, s < 9 ∧ (n : Int) - 8 * (j : Int) = (s : Int)) with d | ⟨d, d2⟩ | ⟨s, hs, d⟩
      · skip
        have hbit : bits .andNot .u8 (z : Int) 255 = ((keep 0 z : Nat) : Int) := HK.out 0 (by decide)
        have HS : Hid (stay n j = 0) := by show stay n j = 0; unfold stay; omega
        go_wp2_with fail
        go_region
        go_wp2_with fail
        go_roundg (32 - (j + 1))
        case measure => omega
        case rel =>
          refine ⟨j + 1, by omega, rfl, by go_num, (HR.out.drew.set j _).congr (fun i _ => ?_)⟩
          by_cases e : i = j
          · subst e
            rw [if_pos rfl, if_pos (by omega)]
            unfold cutf
            rw [HS.out, Hz.out]
          · rw [if_neg e]
            by_cases l : i < j
            · rw [if_pos l, if_pos (by omega)]
            · rw [if_neg l, if_neg (by omega)]
      · skip
        have hbit : bits .andNot .u8 (z : Int) 0 = ((keep 8 z : Nat) : Int) := HK.out 8 (by decide)
        have HS : Hid (stay n j = 8) := by show stay n j = 8; unfold stay; omega
        go_wp2_with fail
        go_region
        go_wp2_with fail
        go_roundg (32 - (j + 1))
        case measure => omega
        case rel =>
          refine ⟨j + 1, by omega, rfl, by go_num, (HR.out.drew.set j _).congr (fun i _ => ?_)⟩
          by_cases e : i = j
          · subst e
            rw [if_pos rfl, if_pos (by omega)]
            unfold cutf
            rw [HS.out, Hz.out]
          · rw [if_neg e]
            by_cases l : i < j
            · rw [if_pos l, if_pos (by omega)]
            · rw [if_neg l, if_neg (by omega)]
      · have d2 : ¬ ((s : Int) < 0) := by omega
        have d3 : ¬ (8 < (s : Int)) := by omega
        have d4 : (s : Int) ≤ 8 := by omega
        have hbit : bits .andNot .u8 (z : Int) ((255 : Int) / 2 ^ s) = ((keep s z : Nat) : Int) := by
          have := HK.out s hs
          simpa using this
        have HS : Hid (stay n j = s) := by show stay n j = s; unfold stay; omega
        go_wp2_with fail
        go_region
        go_wp2_with fail
        go_roundg (32 - (j + 1))
        case measure => omega
        case rel =>
          refine ⟨j + 1, by omega, rfl, by go_num, (HR.out.drew.set j _).congr (fun i _ => ?_)⟩
          by_cases e : i = j
          · subst e
            rw [if_pos rfl, if_pos (by omega)]
            unfold cutf
            rw [HS.out, Hz.out]
          · rw [if_neg e]
            by_cases l : i < j
            · rw [if_pos l, if_pos (by omega)]
            · rw [if_neg l, if_neg (by omega)]
    · have : j = 32 := by omega
      subst this
      obtain ⟨cs, hg, hsz, hcs⟩ := hR.row
      obtain ⟨os, og, osz, _⟩ := hR.out
      have hi : (Tryd.prog.info? 31).map (·.size) = some cs.size := by rw [hsz]; exact info26
      have h1 : cs.all (·.oneCell') = true := all_one (fun i hi => ⟨_, _, hcs i (by omega)⟩)
      have HR : Hid (CF w wr (fun i => if i < 32 then cutf n (gd k) i else gd k i)) := hR
      have HC : Hid (cs = hA (lst 32 (cutf n (gd k)))) := hA_of hsz (fun i hi => by rw [hcs i hi]; simp only [if_pos hi])
      clear hR hcs
      go_wp2_with (first
        | refine wpList_load_row rfl 31 (.tmp 2) rfl w.heap.size rfl 31 cs (0, 0) _ hg Tryd.underlying31 rfl hi ?_
        | refine wpList_store_row rfl 31 (.tmp 4) (.tmp 24) rfl (w.heap.size + 1) cs rfl rfl 31 os og hi (by omega) h1 ?_)
      refine bodyPost_ret (v := .agg cs) ?_ rfl ?_
      · exact results_cell_row rfl _ _ (w.heap.size + 1) 31 cs (0, 0) _ rfl (setRow_heap _ _ _ _ _ _ og) Tryd.underlying31 rfl hi
      · exact ⟨by rw [← HC.out], below_setRow HR.out.below (by omega) _⟩
end Go.Proofs.YtadcbhjmbgenbaaDoor
