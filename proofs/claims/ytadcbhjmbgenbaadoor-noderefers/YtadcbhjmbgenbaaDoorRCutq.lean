import Derived.Test.YtadcbhjmbgenbaaDoorCutq
/-
  cairnref04.Cut.
-/
namespace Go.Proofs.YtadcbhjmbgenbaaDoor
open Go.RowKit

structure CR (w wr : World) (F G : Nat → Nat) : Prop where
  below : Below w.heap.size w wr
  row : wr.rowIs w.heap.size 31 32 (fun i => .int .u8 (F i))
  res : wr.rowIs (w.heap.size + 1) 31 32 (fun _ => .int .u8 0)
  out : wr.rowIs (w.heap.size + 2) 31 32 (fun i => .int .u8 (G i))
theorem CR.set {w wr : World} {F G : Nat → Nat} (h : CR w wr F G) (i v : Nat) : CR w (wr.setCell ⟨w.heap.size + 2, i, none⟩ (.int .u8 v)) F (fun j => if j = i then v else G j) :=
  ⟨h.below.setCell (by show w.heap.size ≤ w.heap.size + 2; omega) _, h.row.setOther (by show w.heap.size ≠ w.heap.size + 2; omega) _, h.res.setOther (by show w.heap.size + 1 ≠ w.heap.size + 2; omega) _, (h.out.set i _).congr (fun j _ => by split <;> rfl)⟩
theorem CR.congr {w wr : World} {F G G' : Nat → Nat} (h : CR w wr F G) (e : ∀ i, i < 32 → G i = G' i) : CR w wr F G' := ⟨h.below, h.row, h.res, h.out.congr (fun i hi => by rw [e i hi])⟩
theorem CR.drew {w wr : World} {F G : Nat → Nat} (h : CR w wr F G) : CR w wr.drew F G := ⟨h.below.drew, h.row.of_block rfl, h.res.of_block rfl, h.out.of_block rfl⟩
theorem zeros_at (w : World) : (w.alloc (.cells Z32 31)).rowIs w.heap.size 31 32 (fun _ => .int .u8 0) := by
  rw [Z32_rep]
  exact zeros_row w (.int .u8 0) 32 31
theorem cr_start (w : World) {k : List Nat} (hk : IsH k) : CR w (((w.alloc (.cells (hA k) 31)).alloc (.cells Z32 31)).alloc (.cells Z32 31)) (gd k) (fun _ => 0) := by
  have r := World.rowIs_alloc w (hA k) 31 (fun i => .int .u8 (gd k i)) (fun i hi => hA_cell hk i (by rw [hA_size hk] at hi; exact hi))
  rw [hA_size hk] at r
  have o1 := zeros_at (w.alloc (.cells (hA k) 31))
  have o2 := zeros_at ((w.alloc (.cells (hA k) 31)).alloc (.cells Z32 31))
  simp only [World.size_alloc] at o1 o2
  exact ⟨(((Below.refl _ _).alloc (Nat.le_refl _) _).alloc (by simp) _).alloc (by simp; omega) _, (r.alloc _).alloc _, o1.alloc _, o2⟩
theorem pow_le {s q : Nat} (h1 : 1 ≤ s) (h2 : s ≤ q) (h3 : q ≤ 8) : 2 ^ (q - s) ≤ 128 := by
  have : 2 ^ (q - s) ≤ 2 ^ 7 := Nat.pow_le_pow_right (by decide) (by omega)
  omega
theorem stay_full {n j : Nat} (h : (8 : Int) ≤ (n : Int) - 8 * (j : Int)) (x : Nat) : keep (stay n j) x = x := by
  have : stay n j = 8 := by unfold stay; omega
  rw [this]
  unfold keep
  rw [Nat.sub_self, Nat.pow_zero, Nat.mod_one, Nat.sub_zero]
theorem stay_none {n j : Nat} (h : ¬ (0 : Int) < (n : Int) - 8 * (j : Int)) (x : Nat) (hx : x < 256) : keep (stay n j) x = 0 := by
  have : stay n j = 0 := by unfold stay; omega
  rw [this]
  unfold keep
  rw [show (8 - 0 : Nat) = 8 from rfl, show (2 : Nat) ^ 8 = 256 from rfl, Nat.mod_eq_of_lt hx, Nat.sub_self]

set_option maxRecDepth 100000 in
set_option maxHeartbeats 1600000 in
theorem rcut_any (w : World) (k : List Nat) (hk : IsH k) (n : Nat) (hn : n ≤ 256) :
    Calls Tryd.prog 20 #[.int .i64 n, .agg (hA k)] w fun e w' => e = .returned (.agg (hA (lst 32 (cutf n (gd k))))) ∧ Below w.heap.size w w' := by
  have z64 := (zero_of_info infoH).1
  have HM : Hid (CR w (((w.alloc (.cells (hA k) 31)).alloc (.cells Z32 31)).alloc (.cells Z32 31)) (gd k) (fun _ => 0)) := cr_start w hk
  have bs := hA_size hk
  go_enter Tryd.func20, Tryd.ntmps20
  go_wp2_with fail
  go_loopg [6] 32 (fun g i wr => ∃ j : Nat, j ≤ 32 ∧ g = 32 - j ∧ i = .int .i64 j ∧ CR w wr (gd k) (fun i => if i < j then cutf n (gd k) i else 0))
  case atStart => exact ⟨0, by omega, rfl, rfl, HM.out.congr (fun i _ => by simp)⟩
  case round =>
    obtain ⟨j, hj, rfl, rfl, hR⟩ := hrel
    clear HM
    by_cases hjn : j < 32
    · have cc := hR.row.cell (i := j) hjn
      have co := hR.out.cell (i := j) hjn
      have fz := hR.out.frozen j
      simp only [Nat.lt_irrefl, if_false] at co
      have hb := gd_lt hk.2 j
      obtain ⟨z, hz⟩ : ∃ z, z = gd k j := ⟨_, rfl⟩
      rw [← hz] at cc hb
      have Hz : Hid (z = gd k j) := hz
      have HR : Hid (CR w wr (gd k) (fun i => if i < j then cutf n (gd k) i else 0)) := hR
      have HN : Hid (∀ v : Nat, v = cutf n (gd k) j → ∀ wq, CR w wq (gd k) (fun i => if i < j then cutf n (gd k) i else 0) → CR w (wq.setCell ⟨w.heap.size + 2, j, none⟩ (.int .u8 v)) (gd k) (fun i => if i < j + 1 then cutf n (gd k) i else 0)) := fun v hv wq h => (h.set j v).congr (fun i _ => by
        by_cases e : i = j
        · subst e
          rw [if_pos rfl, if_pos (by omega), hv]
        · rw [if_neg e]
          by_cases l : i < j
          · rw [if_pos l, if_pos (by omega)]
          · rw [if_neg l, if_neg (by omega)])
      clear hR hz
      obtain ⟨d, hd⟩ : ∃ d : Int, d = (n : Int) - 8 * (j : Int) := ⟨_, rfl⟩
      by_cases d1 : 8 ≤ d
      · have HV : Hid (z = cutf n (gd k) j) := by show z = _; rw [Hz.out]; exact (stay_full (by omega) _).symm
        have d1' : 8 ≤ (n : Int) - 8 * (j : Int) := by omega
        clear hd d1
        go_wp2_with fail
        go_roundg (32 - (j + 1))
        case measure => omega
        case rel => exact ⟨j + 1, by omega, rfl, by go_num, HN.out z HV.out wr HR.out⟩
      · by_cases d2 : 0 < d
        · obtain ⟨s, hs⟩ : ∃ s : Nat, (n : Int) - 8 * (j : Int) = (s : Int) := ⟨n - 8 * j, by omega⟩
          have hs1 : 1 ≤ s := by omega
          have hs2 : s ≤ 7 := by omega
          have d1' : ¬ 8 ≤ (s : Int) := by omega
          have d2' : 0 < (s : Int) := by omega
          have HS : Hid (stay n j = s) := by show stay n j = s; unfold stay; omega
          clear hd d1 d2
          go_wp2_with fail
          go_loopg [8, 9] (8 - s) (fun g kv jv wq => ∃ q : Nat, s ≤ q ∧ q ≤ 8 ∧ g = 8 - q ∧ kv = .int .u8 ((2 ^ (q - s) : Nat) : Int) ∧ jv = .int .i64 q ∧ wq = wr)
          case atStart => exact ⟨s, Nat.le_refl _, by omega, rfl, by rw [Nat.sub_self]; rfl, rfl, rfl⟩
          case round =>
            obtain ⟨q, hq1, hq2, rfl, rfl, rfl, hw'⟩ := hrel
            have hw'' := hw'.symm
            subst hw''
            have hp := pow_le hs1 hq1 hq2
            by_cases hq : q < 8
            · have hp2 : 2 ^ (q - s) ≤ 64 := by
                have : 2 ^ (q - s) ≤ 2 ^ 6 := Nat.pow_le_pow_right (by decide) (by omega)
                omega
              have HP : Hid (2 ^ (q - s) * 2 = 2 ^ (q + 1 - s)) := by show _ = _; rw [← Nat.pow_succ]; congr 1; omega
              obtain ⟨P, hP⟩ : ∃ P, P = 2 ^ (q - s) := ⟨_, rfl⟩
              have HP2 : Hid (P = 2 ^ (q - s)) := hP
              rw [← hP] at hp hp2 ⊢
              clear hP
              go_wp2_with fail
              go_roundg (8 - (q + 1))
              case measure => omega
              case rel => exact ⟨q + 1, by omega, by omega, rfl, by rw [← HP.out, ← HP2.out]; go_num, by go_num, rfl⟩
            · have : q = 8 := by omega
              subst this
              have hp0 : 1 ≤ 2 ^ (8 - s) := Nat.one_le_two_pow
              have HV : Hid (z - z % 2 ^ (8 - s) = cutf n (gd k) j) := by show _ = _; unfold cutf keep; rw [HS.out, Hz.out]
              obtain ⟨P, hP⟩ : ∃ P, P = 2 ^ (8 - s) := ⟨_, rfl⟩
              have HP2 : Hid (P = 2 ^ (8 - s)) := hP
              rw [← hP] at hp hp0 HV ⊢
              clear hP
              have hm : z % P ≤ z := Nat.mod_le _ _
              have e1 : (z : Int) % (P : Int) = ((z % P : Nat) : Int) := rfl
              obtain ⟨y, hy⟩ : ∃ y, y = z % P := ⟨_, rfl⟩
              rw [← hy] at hm e1 HV
              clear hy
              have e2 : (z : Int) - (y : Int) = ((z - y : Nat) : Int) := by omega
              go_wp2_with fail
              go_region
              go_wp2_with fail
              go_roundg (32 - (j + 1))
              case measure => omega
              case rel => exact ⟨j + 1, by omega, rfl, by go_num, HN.out (z - y) HV.out _ HR.out.drew⟩
        · have HV : Hid (0 = cutf n (gd k) j) := by show 0 = _; unfold cutf; rw [stay_none (by omega) _ (gd_lt hk.2 j)]
          have d1' : ¬ 8 ≤ (n : Int) - 8 * (j : Int) := by omega
          have d2' : ¬ 0 < (n : Int) - 8 * (j : Int) := by omega
          have HX : Hid (CR w wr (gd k) (fun i => if i < j + 1 then cutf n (gd k) i else 0)) := HR.out.congr (fun i _ => by
            by_cases e : i = j
            · subst e
              rw [if_neg (by omega), if_pos (by omega)]
              exact HV.out
            · by_cases l : i < j
              · rw [if_pos l, if_pos (by omega)]
              · rw [if_neg l, if_neg (by omega)])
          clear hd d1 d2
          go_wp2_with fail
          go_roundg (32 - (j + 1))
          case measure => omega
          case rel => exact ⟨j + 1, by omega, rfl, by go_num, HX.out⟩
    · have : j = 32 := by omega
      subst this
      obtain ⟨cs, hg, hsz, hcs⟩ := hR.out
      obtain ⟨os, og, osz, _⟩ := hR.res
      have hi : (Tryd.prog.info? 31).map (·.size) = some cs.size := by rw [hsz]; exact info26
      have h1 : cs.all (·.oneCell') = true := all_one (fun i hi => ⟨_, _, hcs i (by omega)⟩)
      have HR : Hid (CR w wr (gd k) (fun i => if i < 32 then cutf n (gd k) i else 0)) := hR
      have HC : Hid (cs = hA (lst 32 (cutf n (gd k)))) := hA_of hsz (fun i hi => by rw [hcs i hi]; simp only [if_pos hi])
      clear hR hcs
      go_wp2_with (first
        | refine wpList_load_row rfl 31 (.tmp 5) rfl (w.heap.size + 2) rfl 31 cs (0, 0) _ hg Tryd.underlying31 rfl hi ?_
        | refine wpList_store_row rfl 31 (.tmp 4) (.tmp 47) rfl (w.heap.size + 1) cs rfl rfl 31 os og hi (by omega) h1 ?_)
      refine bodyPost_ret (v := .agg cs) ?_ rfl ?_
      · exact results_cell_row rfl _ _ (w.heap.size + 1) 31 cs (0, 0) _ rfl (setRow_heap _ _ _ _ _ _ og) Tryd.underlying31 rfl hi
      · exact ⟨by rw [← HC.out], below_setRow HR.out.below (by omega) _⟩
end Go.Proofs.YtadcbhjmbgenbaaDoor
