import Derived.Test.YtadcbhjmbgenbaaDoorHshq
import Derived.Test.YtadcbhjmbgenbaaDoorBlkPq
import Derived.Test.YtadcbhjmbgenbaaDoorRSumq
import Derived.Test.YtadcbhjmbgenbaaDoorRCutq
/-
  A book: Accept.
-/
namespace Go.Proofs.YtadcbhjmbgenbaaDoor
open Go.RowKit Go.Sort Go.Maps Go.MuLone

end Go.Proofs.YtadcbhjmbgenbaaDoor

/-
  The reference's block.
-/
namespace Go.Proofs.YtadcbhjmbgenbaaDoor
open Go.RowKit

/-- the tables of the program and of the reference -/
structure Gr (w : World) : Prop where
  g : Ground w
  rounds : Rounds w
  rbig : 0 < w.heap.size
theorem Gr.below {w w' : World} (h : Gr w) (hb : Below w.heap.size w w') : Gr w' := ⟨h.g.below hb, h.rounds.below hb h.rbig, Nat.lt_of_lt_of_le h.rbig hb.size⟩

end Go.Proofs.YtadcbhjmbgenbaaDoor

/-
  The reference's code.
-/
namespace Go.Proofs.YtadcbhjmbgenbaaDoor
open Go.RowKit

theorem view_own2 {w' : World} {B : Nat} {v : Value} {n : Nat} {Y : Nat → Int} (h : w'.ownsRow B 5 1 v n (vals Y n)) (hb : ∀ i, i < n → 0 ≤ Y i ∧ Y i ≤ 255) (hn : n ≤ 281474976710656) :
    ∃ a g c, v = .slice a n c ∧ View w' a g 0 n Y ∧ n ≤ c ∧ (a = none → c = 0) ∧ (0 < n → B ≤ g) := by
  rcases h.2 with ⟨rfl, h0⟩ | ⟨g, cap, cur, rfl, hlt, hcs⟩
  · subst h0
    exact ⟨none, 0, 0, rfl, view_empty _ _ _ _ _ _ rfl, by omega, fun _ => rfl, fun h => absurd h (by omega)⟩
  · refine ⟨some ⟨g, 0, none⟩, g, cap, rfl, ⟨fun _ => rfl, fun i hi => ?_, hb, hn⟩, hcs.2.1, (fun h => by cases h), fun _ => hlt⟩
    rw [Nat.zero_add, h.cellAt i (by omega)]
    simp [vals, hi]
theorem vals_cat (n m : Nat) (X Y : Nat → Nat) : vals (fun i => (X i : Int)) n ++ vals (fun i => (Y i : Int)) m = vals (fun i => ((cat n X Y i : Nat) : Int)) (n + m) := by
  rw [← vals_app (fun i => ((cat n X Y i : Nat) : Int)) n m (fun i => (Y i : Int)) (fun i _ => by unfold cat; rw [if_neg (by omega), show n + i - n = i by omega])]
  congr 1
  exact vals_congr (fun i hi => by unfold cat; rw [if_pos hi])

end Go.Proofs.YtadcbhjmbgenbaaDoor

/-
  cairnref04.Hash, cairnref04.Code.
-/
namespace Go.Proofs.YtadcbhjmbgenbaaDoor
open Go.RowKit Go.Sort Go.Maps

theorem digest_gd (t : List Nat) : hashA (digest t.length (gd t)) = hA (sum t) := hashA_hA _

set_option maxRecDepth 100000 in
set_option maxHeartbeats 1600000 in
theorem rhashN_any (w : World) (bits : Nat) (hb : bits ≤ 256) (a : Option Addr) (b o c : Nat) (t : List Nat) (hv : Vw w a b o t) (hnil : a = none → c = 0) (hn : t.length ≤ 140737488355000) (hG : Gr w) :
    Calls Tryd.prog 14 #[.int .i64 bits, .slice a t.length c] w fun e w' => e = .returned (.agg (hA (kh bits t))) ∧ Below w.heap.size w w' := by
  have z64 := (zero_of_info infoH).1
  have b1 : Below w.heap.size w (w.alloc (.cells Z32 31)) := (Below.refl _ _).alloc (Nat.le_refl _) _
  obtain ⟨w1, hw1⟩ : ∃ w1, w1 = w.alloc (.cells Z32 31) := ⟨_, rfl⟩
  have hrs : w1.heap[w.heap.size]? = some (.cells Z32 31 (0, 0)) := by rw [hw1]; exact heap_alloc_new _ _
  have lrs : w.heap.size < w1.heap.size := by rw [hw1]; simp
  rw [← hw1] at b1
  have hG1 := hG.below b1
  have cs := rsum_any w1 a b o t.length c (gd t) (hv.below b1) (gd_lt (vw_ok hv).2) hnil (by omega) hG1.rounds hG1.rbig
  rw [digest_gd] at cs
  have HB : Hid (Below w.heap.size w w1 ∧ w1.heap[w.heap.size]? = some (.cells Z32 31 (0, 0)) ∧ w.heap.size < w1.heap.size) := ⟨b1, hrs, lrs⟩
  have hk := sum_isH t
  have HE : Hid (kh bits t = lst 32 (cutf bits (gd (sum t)))) := rfl
  generalize sum t = k at cs hk HE
  have bs := hA_size hk
  have hi3 := hA_info hk
  clear hv hnil hn hG hG1 b1 hrs lrs
  go_enter Tryd.func14, Tryd.ntmps14
  go_wp2_with fail
  rw [← hw1]
  clear hw1
  refine cs.mono ?_
  rintro _ w2 ⟨rfl, hb2⟩
  have bx : ((w2.alloc (.cells Z32 31)).setRow w2.heap.size (hA k)).heap[w2.heap.size]? = some (.cells (hA k) 31 (0, 0)) := setRow_heap _ _ _ _ _ _ (heap_alloc_new _ _)
  have bb : Below w2.heap.size w2 ((w2.alloc (.cells Z32 31)).setRow w2.heap.size (hA k)) := below_setRow ((Below.refl _ _).alloc (Nat.le_refl _) _) (Nat.le_refl _) _
  obtain ⟨w3, hw3⟩ : ∃ w3, w3 = (w2.alloc (.cells Z32 31)).setRow w2.heap.size (hA k) := ⟨_, rfl⟩
  obtain ⟨g, hg⟩ : ∃ g, g = w2.heap.size := ⟨_, rfl⟩
  rw [← hw3, ← hg] at bx
  rw [← hw3] at bb
  have b13 : Below w1.heap.size w1 w3 := hb2.trans (bb.mono hb2.size)
  have H3 : Hid (Below w1.heap.size w1 w3) := b13
  have hcl : ∀ j, j < (hA k).size → w3.cell? ⟨g, j, none⟩ = (hA k)[j]? := fun j _ => cell_of_row _ _ _ _ 31 _ bx
  clear bx bb hb2 b13 cs
  go_upto_region 2 with (refine wpList_store_row (by rfl) 31 (.tmp 5) (.tmp 7) (by rfl) w2.heap.size (hA k) (by rfl) (by rfl) 31 Z32 (heap_alloc_new _ _) (hA_info hk) (hA_Z32 hk) (hA_one hk) ?_)
  rw [← hw3, ← hg]
  clear hw3 hg
  go_wp2_with (refine wpList_load_cells_g (by rfl) 31 (.tmp 5) (by rfl) g (by rfl) (hA k) _ hcl Tryd.underlying31 (by rfl) hi3 ?_)
  refine (rcut_any w3 k hk bits hb).mono ?_
  rintro _ w4 ⟨rfl, hb4⟩
  rw [← HE.out]
  have b14 : Below w1.heap.size w1 w4 := H3.out.trans (hb4.mono H3.out.size)
  have og : w4.heap[w.heap.size]? = some (.cells Z32 31 (0, 0)) := (b14.block _ HB.out.2.2).trans HB.out.2.1
  have H4 : Hid (Below w.heap.size w w4) := HB.out.1.trans (b14.mono HB.out.1.size)
  have hkk := kh_isH bits t
  clear hb4 b14 hcl hi3 bs
  obtain ⟨kk, ekk⟩ : ∃ kk, kk = kh bits t := ⟨_, rfl⟩
  have HKE : Hid (kk = kh bits t) := ekk
  rw [← ekk] at hkk ⊢
  clear ekk
  go_wp2_with (refine wpList_store_row (by rfl) 31 (.tmp 4) (.tmp 10) (by rfl) w.heap.size (hA kk) (by rfl) (by rfl) 31 Z32 og (hA_info hkk) (hA_Z32 hkk) (hA_one hkk) ?_)
  refine bodyPost_ret (v := .agg (hA kk)) ?_ rfl ?_
  · exact results_cell_row rfl _ _ w.heap.size 31 (hA kk) (0, 0) _ rfl (setRow_heap _ _ _ _ _ _ og) Tryd.underlying31 rfl (hA_info hkk)
  · exact ⟨by rw [HKE.out], below_setRow H4.out (Nat.le_refl _) _⟩

end Go.Proofs.YtadcbhjmbgenbaaDoor
