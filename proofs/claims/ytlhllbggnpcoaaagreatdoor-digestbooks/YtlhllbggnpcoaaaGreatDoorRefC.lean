import Derived.Test.YtlhllbggnpcoaaaGreatDoorRWords
import Derived.Test.YtlhllbggnpcoaaaGreatDoorRMix
/-
  The sum: the document's way.
-/
namespace Go.Proofs.YtlhllbggnpcoaaaGreatDoor
open Go.RowKit

theorem mixed_lit (w : World) (s s' : W8) (hs : Ok8 s) (a : Option Addr) (b off c : Nat) (B : Nat → Nat) (h : View w a b off 64 (fun i => (B i : Int))) (hB : ∀ i, B i < 256) (hK : Rounds w) (hw : 3 < w.heap.size) (e : fold1 s B = s') :
    Calls Tryz.prog 126 #[.agg #[.int .u32 s.a, .int .u32 s.b, .int .u32 s.c, .int .u32 s.d, .int .u32 s.e, .int .u32 s.f, .int .u32 s.g, .int .u32 s.h], .slice a 64 c] w fun e w' => e = .returned (.agg #[.int .u32 s'.a, .int .u32 s'.b, .int .u32 s'.c, .int .u32 s'.d, .int .u32 s'.e, .int .u32 s'.f, .int .u32 s'.g, .int .u32 s'.h]) ∧ Below w.heap.size w w' := by
  subst e
  exact mixed_any w s hs a b off c B h hB hK hw

structure Rs (w wr : World) (g T : Nat) (Y : Nat → Nat) (s : W8) : Prop where
  below : Below w.heap.size w wr
  size : w.heap.size + 2 ≤ wr.heap.size
  out : wr.rowIs w.heap.size 31 32 (fun _ => .int .u8 0)
  row : wr.rowIs (w.heap.size + 1) 114 8 (fun i => .int .u32 (w8 s i))
  view : View wr (some ⟨g, 0, none⟩) g 0 T (fun i => (Y i : Int))
  far : w.heap.size + 2 ≤ g
  rounds : Rounds wr
theorem Rs.next {w wr w2 : World} {g T : Nat} {Y : Nat → Nat} {s : W8} (h : Rs w wr g T Y s) (hb : Below wr.heap.size wr w2) (hw : 3 < w.heap.size) : Rs w w2 g T Y s := by
  have z := h.size
  exact ⟨h.below.trans (hb.mono (by omega)), Nat.le_trans h.size hb.size, h.out.of_block (hb.block _ (by omega)), h.row.of_block (hb.block _ (by omega)), h.view.below hb, h.far, h.rounds.below hb (by omega)⟩
theorem Rs.put8 {w wr : World} {g T : Nat} {Y : Nat → Nat} {s : W8} (h : Rs w wr g T Y s) (hw : 3 < w.heap.size) (s' : W8) : Rs w (eight wr (w.heap.size + 1) s') g T Y s' := by
  have sv : Save (w.heap.size + 1) wr (eight wr (w.heap.size + 1) s') := (Save.refl _ _).eight s'
  have z := h.size
  have f := h.far
  refine ⟨h.below.trans (sv.below (by omega) h.below.size), Nat.le_trans h.size sv.size, sv.row h.out (by omega), ?_, h.view.save sv (fun _ => by omega), h.far, fun i hi => (sv.cell (q := ⟨3, i, none⟩) (by show 3 < wr.heap.size; omega) (by show 3 ≠ w.heap.size + 1; omega)).trans (h.rounds i hi)⟩
  refine ((((((((h.row.set 0 _).set 1 _).set 2 _).set 3 _).set 4 _).set 5 _).set 6 _).set 7 _).congr (fun i hi => ?_)
  match i, hi with
  | 0, _ => rfl
  | 1, _ => rfl
  | 2, _ => rfl
  | 3, _ => rfl
  | 4, _ => rfl
  | 5, _ => rfl
  | 6, _ => rfl
  | 7, _ => rfl
theorem Rs.cells {w wr : World} {g T : Nat} {Y : Nat → Nat} {s : W8} (h : Rs w wr g T Y s) : Cells8 wr (w.heap.size + 1) s :=
  ⟨h.row.cell (i := 0) (by omega), h.row.cell (i := 1) (by omega), h.row.cell (i := 2) (by omega), h.row.cell (i := 3) (by omega), h.row.cell (i := 4) (by omega), h.row.cell (i := 5) (by omega), h.row.cell (i := 6) (by omega), h.row.cell (i := 7) (by omega)⟩
theorem Rs.thaw {w wr : World} {g T : Nat} {Y : Nat → Nat} {s : W8} (h : Rs w wr g T Y s) : Thaw8 wr (w.heap.size + 1) :=
  ⟨h.row.frozen 0, h.row.frozen 1, h.row.frozen 2, h.row.frozen 3, h.row.frozen 4, h.row.frozen 5, h.row.frozen 6, h.row.frozen 7⟩
def hstp (s : W8) (k i : Nat) : Nat := if i < k then hb s i else 0
theorem hstp_next (s : W8) (k i : Nat) : (if i = k then hb s k else hstp s k i) = hstp s (k + 1) i := by
  unfold hstp
  by_cases e : i = k
  · subst e
    rw [if_pos rfl, if_pos (by omega)]
  · rw [if_neg e]
    by_cases l : i < k
    · rw [if_pos l, if_pos (by omega)]
    · rw [if_neg l, if_neg (by omega)]

theorem rs_start {w w1 : World} {g T : Nat} {Y : Nat → Nat} (hb : Below (((w.alloc (.cells Z32 31)).alloc (.cells Z8 114)).setRow (w.heap.size + 1) (arr8 H0)).heap.size (((w.alloc (.cells Z32 31)).alloc (.cells Z8 114)).setRow (w.heap.size + 1) (arr8 H0)) w1)
    (hv : View w1 (some ⟨g, 0, none⟩) g 0 T (fun i => (Y i : Int))) (hg : w.heap.size + 2 ≤ g) (hK : Rounds w) (hw : 3 < w.heap.size) : Rs w w1 g T Y H0 := by
  have hs := hb.size
  simp only [size_setRow, World.size_alloc] at hs hb
  have n1 : ((w.alloc (.cells Z32 31)).alloc (.cells Z8 114)).heap[w.heap.size + 1]? = some (.cells Z8 114 (0, 0)) := by
    have e := heap_alloc_new (w.alloc (.cells Z32 31)) (.cells Z8 114)
    rwa [World.size_alloc] at e
  have b0 : Below w.heap.size w (((w.alloc (.cells Z32 31)).alloc (.cells Z8 114)).setRow (w.heap.size + 1) (arr8 H0)) := below_setRow (((Below.refl _ _).alloc (Nat.le_refl _) _).alloc (by simp) _) (by omega) _
  have b1 : Below w.heap.size w w1 := b0.trans (hb.mono (by omega))
  refine ⟨b1, by omega, ?_, (rowIs_setRow n1 rfl (fun i hi => arr8_cell H0 i hi)).of_block (hb.block _ (by omega)), hv, hg, hK.below b1 hw⟩
  have r : (w.alloc (.cells Z32 31)).rowIs w.heap.size 31 32 (fun _ => .int .u8 0) := by rw [Z32_rep]; exact zeros_row w _ 32 31
  exact ((r.alloc _).of_block (setRow_other _ _ _ _ (by omega))).of_block (hb.block _ (by omega))

set_option maxRecDepth 100000 in
set_option maxHeartbeats 4000000 in
theorem rsum_any (w : World) (a : Option Addr) (b off n c : Nat) (X : Nat → Nat) (hv : View w a b off n (fun i => (X i : Int))) (hX : ∀ i, X i < 256) (hnil : a = none → c = 0) (hn : n ≤ 140737488355200) (hK : Rounds w) (hw : 3 < w.heap.size) :
    Calls Tryz.prog 97 #[.slice a n c] w fun e w' => e = .returned (.agg (hashA (digest n X))) ∧ Below w.heap.size w w' := by
  have b0 : Below w.heap.size w (((w.alloc (.cells Z32 31)).alloc (.cells Z8 114)).setRow (w.heap.size + 1) (arr8 H0)) := below_setRow (((Below.refl _ _).alloc (Nat.le_refl _) _).alloc (by simp) _) (by omega) _
  have HB0 : Hid (Below w.heap.size w (((w.alloc (.cells Z32 31)).alloc (.cells Z8 114)).setRow (w.heap.size + 1) (arr8 H0))) := b0
  have n1 : ((w.alloc (.cells Z32 31)).alloc (.cells Z8 114)).heap[w.heap.size + 1]? = some (.cells Z8 114 (0, 0)) := by
    have e := heap_alloc_new (w.alloc (.cells Z32 31)) (.cells Z8 114)
    rwa [World.size_alloc] at e
  clear b0
  go_enter Tryz.func97, Tryz.ntmps97
  go_wp2_with (refine wpList_store_row (by rfl) 114 (.tmp 3) (.tmp 8) (by rfl) (w.heap.size + 1) (arr8 H0) (by rfl) (by rfl) 114 Z8 n1 (arr8_info _) rfl (arr8_one _) ?_)
  refine (padded_any _ a b off n c X (hv.below HB0.out) hX hnil hn).mono ?_
  rintro _ w1 ⟨g, cap, rfl, vw1, hcap, hg0, hb1⟩
  have e32 : (((w.alloc (.cells Z32 31)).alloc (.cells Z8 114)).setRow (w.heap.size + 1) (arr8 H0)).heap.size = w.heap.size + 2 := by simp
  have hg : w.heap.size + 2 ≤ g := Nat.le_trans (Nat.le_of_eq e32.symm) hg0
  have R0 : Rs w w1 g (n + zend n + 8) (cat n X (padb n)) H0 := rs_start hb1 vw1 hg hK hw
  have hT : (n + zend n + 8) % 64 = 0 := by
    have z1 := zend_pos n
    have := (zend_mod n (zend n) z1 (Nat.le_refl _)).2 rfl
    omega
  have zl := zend_le n
  have Hd : Hid (folds (cat n X (padb n)) ((n + zend n + 8) / 64) = digest n X) := by unfold digest; rw [Nat.add_assoc]; rfl
  have hY : ∀ i, cat n X (padb n) i < 256 := cat_lt hX (padb_lt n)
  obtain ⟨T, hTe⟩ : ∃ T, T = n + zend n + 8 := ⟨_, rfl⟩
  obtain ⟨Y, hYe⟩ : ∃ Y, Y = cat n X (padb n) := ⟨_, rfl⟩
  have T1 : T ≤ 140737488355328 := by omega
  have T0 : 0 < T := by omega
  rw [← hTe] at R0 hT Hd hcap ⊢
  rw [← hYe] at R0 Hd hY
  have HR0 : Hid (Rs w w1 g T Y H0) := R0
  clear hTe hYe R0 vw1 hb1 e32 hg hg0 HB0 n1 zl hv
  go_wp2_with fail
  go_loopg [5] T (fun gg i wr => ∃ k : Nat, k ≤ T ∧ k % 64 = 0 ∧ gg = T - k ∧ i = .int .i64 k ∧ Rs w wr g T Y (folds Y (k / 64)))
  case atStart => exact ⟨0, by omega, by omega, rfl, rfl, HR0.out⟩
  case round =>
    obtain ⟨k, hk, hk64, rfl, rfl, hR⟩ := hrel
    clear HR0
    by_cases hkT : k < T
    · have hk2 : k + 64 ≤ T := by omega
      have ok := folds_ok Y (k / 64)
      have vb : View wr (some ⟨g, k, none⟩) g k 64 (fun i => ((Y (k + i) : Nat) : Int)) := ⟨fun _ => rfl, fun i hi => by have c := hR.view.cell (k + i) (by omega); rw [Nat.zero_add] at c; exact c, fun i hi => hR.view.bd (k + i) (by omega), by omega⟩
      have Hf : Hid (fold1 (folds Y (k / 64)) (fun i => Y (k + i)) = folds Y ((k + 64) / 64)) := by
        show _ = _
        rw [show (k + 64) / 64 = k / 64 + 1 by omega]
        simp only [folds]
        rw [show 64 * (k / 64) = k by omega]
      obtain ⟨s, hs⟩ : ∃ s, s = folds Y (k / 64) := ⟨_, rfl⟩
      obtain ⟨s', hs'⟩ : ∃ s, s = folds Y ((k + 64) / 64) := ⟨_, rfl⟩
      rw [← hs] at ok hR Hf
      rw [← hs'] at Hf
      have Hs' : Hid (s' = folds Y ((k + 64) / 64)) := hs'
      have hy : ∀ i, (fun i => Y (k + i)) i < 256 := fun i => hY _
      have HR : Hid (Rs w wr g T Y s ∧ View wr (some ⟨g, k, none⟩) g k 64 (fun i => ((Y (k + i) : Nat) : Int))) := ⟨hR, vb⟩
      have ⟨c0, c1, c2, c3, c4, c5, c6, c7⟩ := hR.cells
      have ⟨f0, f1, f2, f3, f4, f5, f6, f7⟩ := hR.thaw
      have q1 : (k : Int) + 64 ≤ (cap : Int) := by omega
      have q2 : (0 : Int) ≤ (k : Int) := by omega
      have q3 : (k : Int) ≤ (k : Int) + 64 := by omega
      have q4 : ¬ cap = k := by omega
      have q5 : IntKind.i64.wrap ((k : Int) + 64) = (k : Int) + 64 := by rw [IntKind.wrap_i64]; omega
      have q6 : ((k : Int) + 64).toNat = k + 64 := by omega
      have q7 : k + 64 - k = 64 := by omega
      have bd : Below wr.heap.size wr wr.drew := (Below.refl _ _).drew
      have z2 := hR.size
      clear hs hs' hR vb
      go_wp2_with fail
      go_region_with (go_at_call 126; refine (mixed_lit _ s s' ok _ g k _ (fun i => Y (k + i)) (HR.out.2.below bd) hy (HR.out.1.next bd hw).rounds (by show 3 < wr.heap.size; omega) Hf.out).mono ?_; rintro _ w2 ⟨rfl, hb2⟩; have ⟨c0, c1, c2, c3, c4, c5, c6, c7⟩ := ((HR.out.1.next bd hw).next hb2 hw).cells; have ⟨f0, f1, f2, f3, f4, f5, f6, f7⟩ := ((HR.out.1.next bd hw).next hb2 hw).thaw)
      have r2 : Rs w (eight w2 (w.heap.size + 1) s') g T Y s' := ((HR.out.1.next bd hw).next hb2 hw).put8 hw s'
      obtain ⟨wn, hwn⟩ : ∃ x, x = eight w2 (w.heap.size + 1) s' := ⟨_, rfl⟩
      rw [← hwn] at r2
      delta eight at hwn
      rw [← hwn]
      rw [Hs'.out] at r2
      have HN : Hid (Rs w wn g T Y (folds Y ((k + 64) / 64))) := r2
      clear r2 hwn c0 c1 c2 c3 c4 c5 c6 c7 f0 f1 f2 f3 f4 f5 f6 f7 hb2 HR bd
      go_wp2_with fail
      go_roundg (T - (k + 64))
      case measure => omega
      case rel => exact ⟨k + 64, by omega, by omega, rfl, by go_num, HN.out⟩
    · have hkT2 : k = T := by omega
      have HR : Hid (Rs w wr g T Y (digest n X)) := by
        have e : folds Y (k / 64) = digest n X := by rw [hkT2]; exact Hd.out
        show Rs w wr g T Y (digest n X)
        rw [← e]
        exact hR
      have okd : Ok8 (digest n X) := by unfold digest; exact folds_ok _ _
      have k1 : T ≤ k := by omega
      have z2 := hR.size
      clear hR hkT2
      obtain ⟨sd, hsd⟩ : ∃ s, s = digest n X := ⟨_, rfl⟩
      rw [← hsd] at HR okd
      have Hsd : Hid (sd = digest n X) := hsd
      clear hsd Hd
      have HF3 : Hid (SF3 w (wr.alloc (.cells Z32 31)) wr.heap.size (fun _ => 0) ∧ (wr.alloc (.cells Z32 31)).rowIs (w.heap.size + 1) 114 8 (fun i => .int .u32 (w8 sd i))) := by
        refine ⟨⟨HR.out.below.alloc HR.out.below.size _, z2, HR.out.out.alloc _, ?_⟩, HR.out.row.alloc _⟩
        rw [Z32_rep]
        exact zeros_row wr _ 32 31
      clear HR
      go_wp2_with fail
      obtain ⟨g6, hg6⟩ : ∃ g, g = wr.heap.size := ⟨_, rfl⟩
      rw [← hg6] at HF3 ⊢
      clear hg6
      go_loopg [7] 32 (fun gg i wx => ∃ j : Nat, j ≤ 32 ∧ gg = 32 - j ∧ i = .int .i64 j ∧ SF3 w wx g6 (hstp sd j) ∧ wx.rowIs (w.heap.size + 1) 114 8 (fun i => .int .u32 (w8 sd i)))
      case atStart => exact ⟨0, by omega, rfl, rfl, HF3.out.1.congr (fun i _ => by simp [hstp]), HF3.out.2⟩
      case round =>
        clear HF3
        obtain ⟨j, hj, rfl, rfl, hR, hr8⟩ := hrel
        by_cases hj32 : j < 32
        · have cw := hr8.cell (i := j / 4) (by omega)
          have lx := w8_lt okd (j / 4)
          obtain ⟨x, hx⟩ : ∃ x, x = w8 sd (j / 4) := ⟨_, rfl⟩
          rw [← hx] at cw lx
          have gj := hR.row.cell (i := j) (by omega)
          have fj := hR.row.frozen j
          have HR : Hid (SF3 w wr g6 (hstp sd j) ∧ wr.rowIs (w.heap.size + 1) 114 8 (fun i => .int .u32 (w8 sd i)) ∧ x = w8 sd (j / 4)) := ⟨hR, hr8, hx⟩
          have m1 : (0 : Int) ≤ (j : Int) / 4 := by omega
          have m2 : (j : Int) / 4 < 8 := by omega
          have m3 : ((j : Int) / 4).toNat = j / 4 := by omega
          have m4 : (0 : Int) ≤ 24 - 8 * ((j : Int) % 4) := by omega
          have m5 : (24 - 8 * ((j : Int) % 4)).toNat = 24 - 8 * (j % 4) := by omega
          clear hR hr8 hx
          go_wp2_with fail
          have V : (x : Int) / 2 ^ (24 - 8 * (j % 4)) % 256 = ((hb sd j : Nat) : Int) := by
            unfold hb
            rw [← HR.out.2.2]
            simp
          rw [V]
          clear cw gj fj V m1 m2 m3 m4 m5
          go_roundg (32 - (j + 1))
          case measure => omega
          case rel => exact ⟨j + 1, by omega, rfl, by go_num, (HR.out.1.set j _).congr (fun i _ => hstp_next sd j i), HR.out.2.1.setOther (by have := HR.out.1.far; show w.heap.size + 1 ≠ g6; omega) _⟩
        · have : j = 32 := by omega
          subst this
          obtain ⟨cs, hg, hsz, hcs⟩ := hR.row
          obtain ⟨os, og, osz, _⟩ := hR.out
          have hi : (Tryz.prog.info? 31).map (·.size) = some cs.size := by rw [hsz]; exact info26
          have h1 : cs.all (·.oneCell') = true := all_one (fun i hi => ⟨_, _, hcs i (by omega)⟩)
          have HR : Hid (SF3 w wr g6 (hstp sd 32)) := hR
          clear hR hr8
          go_wp2_with (first
            | refine wpList_load_row (by rfl) 31 (.tmp 6) (by rfl) g6 (by rfl) 31 cs (0, 0) _ hg Tryz.underlying31 rfl hi ?_
            | refine wpList_store_row (by rfl) 31 (.tmp 2) (.tmp 40) (by rfl) w.heap.size cs (by rfl) (by rfl) 31 os og hi (by omega) h1 ?_)
          refine bodyPost_ret (v := .agg cs) ?_ rfl ?_
          · exact results_cell_row rfl _ _ w.heap.size 31 cs (0, 0) _ rfl (setRow_heap _ _ _ _ _ _ og) Tryz.underlying31 rfl hi
          · exact ⟨by rw [← Hsd.out, hashA_of hsz (fun i hi => by rw [hcs i hi]; unfold hstp; rw [if_pos hi])], below_setRow HR.out.below (Nat.le_refl _) _⟩
end Go.Proofs.YtlhllbggnpcoaaaGreatDoor

/-
  The reference's block.
-/
namespace Go.Proofs.YtlhllbggnpcoaaaGreatDoor
open Go.RowKit

/-- the tables of the program and of the reference -/
structure Gr (w : World) : Prop where
  g : Ground w
  rounds : Rounds w
  rbig : 3 < w.heap.size
theorem Gr.below {w w' : World} (h : Gr w) (hb : Below w.heap.size w w') : Gr w' := ⟨h.g.below hb, h.rounds.below hb h.rbig, Nat.lt_of_lt_of_le h.rbig hb.size⟩

set_option maxRecDepth 100000 in
set_option maxHeartbeats 1600000 in
theorem rblock_any (w : World) (a : Option Addr) (b off n c : Nat) (S : Nat → Nat) (hv : View w a b off n (fun i => (S i : Int))) (hS : ∀ i, S i < 256) (x : Nat) (hx : x < 256) (hG : Gr w) (hnil : a = none → c = 0) (hnn : n ≤ 1099511627776) :
    Calls Tryz.prog 127 #[.slice a n c, .int .u8 x] w fun e w' => e = .returned (.slice (some ⟨w.heap.size, 0, none⟩) 64 64) ∧ w'.ownsRow w.heap.size 5 1 (.slice (some ⟨w.heap.size, 0, none⟩) 64 64) 64 (vals (fun i => (msk x (blk n S) i : Int)) 64) ∧ Below w.heap.size w w' := by
  have hmk := run_make_row' (P := Tryz.prog) 26 5 (.int .u8 0) 1 Tryz.underlying26 Tryz.info5 rfl .i64 .i64 64 (by omega) (by omega)
  rw [show ((64 : Nat) : Int) = (64 : Int) from rfl] at hmk
  have HM : Hid (Mk w (w.alloc (.cells (madeCells #[.int .u8 0] 64) 5)) w.heap.size 64 (fun _ => 0)) := mk_made (Below.refl _ _) 64
  have HV : Hid (View w a b off n (fun i => (S i : Int))) := hv
  have HG : Hid (Gr w) := hG
  have ln := hv.len
  have sz1 : (w.alloc (.cells (madeCells #[.int .u8 0] 64) 5)).heap.size = w.heap.size + 1 := by simp
  clear hv hG
  obtain ⟨w1, hw1⟩ : ∃ y, y = w.alloc (.cells (madeCells #[.int .u8 0] 64) 5) := ⟨_, rfl⟩
  rw [← hw1] at HM sz1
  by_cases hn : n ≤ 64
  · go_enter Tryz.func127, Tryz.ntmps127
    go_wp2_with (first
      | (rw [← hw1]; refine wpList_copy_in (by rfl) (.tmp 17) (.tmp 18) (by rfl) w.heap.size 0 64 64 5 64 (fun _ => .int .u8 ((0 : Nat) : Int)) (by rfl) HM.out.row (by omega) a b off n c _ (by rfl) (HV.out.below HM.out.below) n (Nat.min_eq_left hn).symm ?_; intro wn hsn hrn; have HM2 : Hid (Mk w wn w.heap.size 64 (blk n S)) := (mk_copied (Z := fun i => (S i : Int)) HM.out hsn hrn (fun i hi => (by unfold blk; rw [if_pos hn]; by_cases e : i < n; (simp [e]); (simp [e])))); clear hsn hrn))
    clear hmk hw1
    go_loopg [7] 64 (fun g i wr => ∃ k : Nat, k ≤ 64 ∧ g = 64 - k ∧ i = .int .i64 k ∧ Mk w wr w.heap.size 64 (fun j => if j < k then msk x (blk n S) j else blk n S j))
    case atStart => exact ⟨0, by omega, rfl, rfl, HM2.out.congr (fun i _ => by simp)⟩
    case round =>
      obtain ⟨k, hk, rfl, rfl, hR⟩ := hrel
      clear HM2
      by_cases hkn : k < 64
      · have cc := hR.row.cell (i := k) hkn
        have fz := hR.row.frozen k
        simp only [Nat.lt_irrefl, if_false] at cc
        have hbb := blk_lt (n := n) hS k
        obtain ⟨z, hz⟩ : ∃ z, z = blk n S k := ⟨_, rfl⟩
        rw [← hz] at cc hbb
        have Hz : Hid (z = blk n S k) := hz
        have HR : Hid (Mk w wr w.heap.size 64 (fun j => if j < k then msk x (blk n S) j else blk n S j)) := hR
        have hxx := u8_xor_nat z x hbb hx
        clear hR hz
        go_wp2_with fail
        go_roundg (64 - (k + 1))
        case measure => omega
        case rel =>
          refine ⟨k + 1, by omega, rfl, by go_num, (HR.out.set k _).congr (fun i _ => ?_)⟩
          by_cases e : i = k
          · subst e
            rw [if_pos rfl, if_pos (by omega), Hz.out]
            rfl
          · rw [if_neg e]
            by_cases l : i < k
            · rw [if_pos l, if_pos (by omega)]
            · rw [if_neg l, if_neg (by omega)]
      · have : k = 64 := by omega
        subst this
        have HR : Hid (Mk w wr w.heap.size 64 (msk x (blk n S))) := hR.congr (fun i hi => by rw [if_pos hi])
        clear hR
        go_wp2_with fail
        go_ret
        exact ⟨rfl, mk_own HR.out, HR.out.below⟩
  · have c15 := rsum_any w1 a b off n c S (HV.out.below HM.out.below) hS hnil (by omega) (HG.out.below HM.out.below).rounds (HG.out.below HM.out.below).rbig
    obtain ⟨D, hD⟩ : ∃ d, d = digest n S := ⟨_, rfl⟩
    rw [← hD] at c15
    have HD : Hid (D = digest n S) := hD
    clear hD
    rw [hw1] at c15
    go_enter Tryz.func127, Tryz.ntmps127
    go_wp2_with fail
    refine c15.mono ?_
    rintro _ w3 ⟨rfl, hb3⟩
    rw [← hw1] at hb3
    have b3 : Below w1.heap.size w1 w3 := hb3
    have hl := hash_laid w3 D
    have HX : Hid (HashAt ((w3.alloc (.cells Z32 31)).setRow w3.heap.size (hashA D)) w3.heap.size D ∧ Mk w ((w3.alloc (.cells Z32 31)).setRow w3.heap.size (hashA D)) w.heap.size 64 (fun _ => 0)) := ⟨hl.1, HM.out.step (ch b3 hl.2)⟩
    clear hb3 b3 hl c15 hw1
    go_wp2_with (first
      | (refine wpList_store_row (by rfl) 31 (.tmp 6) (.tmp 13) (by rfl) w3.heap.size (hashA D) (by rfl) (by rfl) 31 Z32 (heap_alloc_new _ _) (hashA_info _) (Z32_hash _) (hashA_one _) ?_; change wpList _ _ _ _ _ ((w3.alloc (.cells Z32 31)).setRow w3.heap.size (hashA D)); revert HX; generalize (w3.alloc (.cells Z32 31)).setRow w3.heap.size (hashA D) = w4; intro HX)
      | (refine wpList_copy_in (by rfl) (.tmp 14) (.tmp 15) (by rfl) w.heap.size 0 64 64 5 64 (fun _ => .int .u8 ((0 : Nat) : Int)) (by rfl) HX.out.2.row (by omega) (some ⟨w3.heap.size, 0, none⟩) w3.heap.size 0 32 32 _ (by rfl) (hash_view HX.out.1) 32 (by rfl) ?_; intro wn hsn hrn; have HM2 : Hid (Mk w wn w.heap.size 64 (blk n S)) := (mk_copied (Z := fun i => ((hb D i : Nat) : Int)) HX.out.2 hsn hrn (fun i hi => (by unfold blk; rw [if_neg hn, ← HD.out]; by_cases e : i < 32; (simp [e]); (simp [e])))); clear hsn hrn HX))
    clear hmk
    go_loopg [7] 64 (fun g i wr => ∃ k : Nat, k ≤ 64 ∧ g = 64 - k ∧ i = .int .i64 k ∧ Mk w wr w.heap.size 64 (fun j => if j < k then msk x (blk n S) j else blk n S j))
    case atStart => exact ⟨0, by omega, rfl, rfl, HM2.out.congr (fun i _ => by simp)⟩
    case round =>
      obtain ⟨k, hk, rfl, rfl, hR⟩ := hrel
      clear HM2
      by_cases hkn : k < 64
      · have cc := hR.row.cell (i := k) hkn
        have fz := hR.row.frozen k
        simp only [Nat.lt_irrefl, if_false] at cc
        have hbb := blk_lt (n := n) hS k
        obtain ⟨z, hz⟩ : ∃ z, z = blk n S k := ⟨_, rfl⟩
        rw [← hz] at cc hbb
        have Hz : Hid (z = blk n S k) := hz
        have HR : Hid (Mk w wr w.heap.size 64 (fun j => if j < k then msk x (blk n S) j else blk n S j)) := hR
        have hxx := u8_xor_nat z x hbb hx
        clear hR hz
        go_wp2_with fail
        go_roundg (64 - (k + 1))
        case measure => omega
        case rel =>
          refine ⟨k + 1, by omega, rfl, by go_num, (HR.out.set k _).congr (fun i _ => ?_)⟩
          by_cases e : i = k
          · subst e
            rw [if_pos rfl, if_pos (by omega), Hz.out]
            rfl
          · rw [if_neg e]
            by_cases l : i < k
            · rw [if_pos l, if_pos (by omega)]
            · rw [if_neg l, if_neg (by omega)]
      · have : k = 64 := by omega
        subst this
        have HR : Hid (Mk w wr w.heap.size 64 (msk x (blk n S))) := hR.congr (fun i hi => by rw [if_pos hi])
        clear hR
        go_wp2_with fail
        go_ret
        exact ⟨rfl, mk_own HR.out, HR.out.below⟩
end Go.Proofs.YtlhllbggnpcoaaaGreatDoor

/-
  The reference's code.
-/
namespace Go.Proofs.YtlhllbggnpcoaaaGreatDoor
open Go.RowKit

theorem view_own2 {w' : World} {B : Nat} {v : Value} {n : Nat} {Y : Nat → Int} (h : w'.ownsRow B 5 1 v n (vals Y n)) (hb : ∀ i, i < n → 0 ≤ Y i ∧ Y i ≤ 255) (hn : n ≤ 281474976710656) :
    ∃ a g c, v = .slice a n c ∧ View w' a g 0 n Y ∧ n ≤ c ∧ (a = none → c = 0) ∧ (0 < n → B ≤ g) := by
  rcases h.2 with ⟨rfl, h0⟩ | ⟨g, cap, cur, rfl, hlt, hcs⟩
  · subst h0
    exact ⟨none, 0, 0, rfl, view_empty _ _ _ _ _ _ rfl, by omega, fun _ => rfl, fun h => absurd h (by omega)⟩
  · refine ⟨some ⟨g, 0, none⟩, g, cap, rfl, ⟨fun _ => rfl, fun i hi => ?_, hb, hn⟩, hcs.2.1, (fun h => by cases h), fun _ => hlt⟩
    rw [Nat.zero_add, h.cellAt i (by omega)]
    simp [vals, hi]
theorem vals_cat (n m : Nat) (X Y : Nat → Nat) : vals (fun i => (X i : Int)) n ++ vals (fun i => (Y i : Int)) m = vals (fun i => ((cat n X Y i : Nat) : Int)) (n + m) := by
  rw [← vals_app (fun i => ((cat n X Y i : Nat) : Int)) n m (fun i => (Y i : Int)) (fun i _ => by unfold cat; rw [if_neg (by omega), show n + i - n = i by omega])]
  congr 1
  exact vals_congr (fun i hi => by unfold cat; rw [if_pos hi])

set_option maxRecDepth 100000 in
set_option maxHeartbeats 1600000 in
theorem rcode_any (w : World) (a : Option Addr) (b off n c : Nat) (S : Nat → Nat) (hv : View w a b off n (fun i => (S i : Int))) (hS : ∀ i, S i < 256) (hnil : a = none → c = 0) (hn : n ≤ 1099511627776)
    (a2 : Option Addr) (b2 off2 m c2 : Nat) (X : Nat → Nat) (hv2 : View w a2 b2 off2 m (fun i => (X i : Int))) (hX : ∀ i, X i < 256) (hnil2 : a2 = none → c2 = 0) (hm : m ≤ 140737488355000) (hG : Gr w) :
    Calls Tryz.prog 99 #[.slice a n c, .slice a2 m c2] w fun e w' => e = .returned (.agg (hashA (hmac (blk n S) m X))) ∧ Below w.heap.size w w' := by
  have b1 : Below w.heap.size w (w.alloc (.cells Z32 31)) := (Below.refl _ _).alloc (Nat.le_refl _) _
  have cb := rblock_any (w.alloc (.cells Z32 31)) a b off n c S (hv.below b1) hS 54 (by decide) (hG.below b1) hnil hn
  have hB := blk_lt (n := n) hS
  have HV : Hid (View w a b off n (fun i => (S i : Int)) ∧ View w a2 b2 off2 m (fun i => (X i : Int)) ∧ Gr w) := ⟨hv, hv2, hG⟩
  have HO : Hid (Below w.heap.size w (w.alloc (.cells Z32 31)) ∧ (w.alloc (.cells Z32 31)).heap[w.heap.size]? = some (.cells Z32 31 (0, 0))) := ⟨b1, heap_alloc_new _ _⟩
  clear b1 hv hv2 hG
  rw [World.size_alloc] at cb
  go_enter Tryz.func99, Tryz.ntmps99
  go_wp2_with fail
  refine cb.mono ?_
  rintro _ w1 ⟨rfl, own1, hb1⟩
  have s1 : w.heap.size + 1 ≤ w1.heap.size := by have := hb1.size; rw [World.size_alloc] at this; exact this
  have b1 : Below w.heap.size w w1 := HO.out.1.trans (hb1.mono (by omega))
  have o1 : w1.heap[w.heap.size]? = some (.cells Z32 31 (0, 0)) := (hb1.block _ (by omega)).trans HO.out.2
  have HV2 : Hid (View w1 a2 b2 off2 m (fun i => (X i : Int))) := HV.out.2.1.below b1
  have HO1 : Hid (Below w.heap.size w w1 ∧ w1.heap[w.heap.size]? = some (.cells Z32 31 (0, 0))) := ⟨b1, o1⟩
  clear b1 o1 hb1 cb HO
  go_wp2_with (refine wpList_append_bytes (by rfl) (.tmp 9) (.tmp 10) (by rfl) (w.heap.size + 1) _ 64 _ (by rfl) own1 a2 b2 off2 m c2 _ (by rfl) HV2.out hnil2 (by omega) s1 ?_)
  intro v2 w2 own2 gr2 nn2
  rw [vals_cat] at own2
  have b12 : Below (w.heap.size + 1) w1 w2 := grown_below gr2 own1 (Nat.le_refl _) s1
  have b2' : Below w.heap.size w w2 := HO1.out.1.trans (b12.mono (by omega))
  have o2 : w2.heap[w.heap.size]? = some (.cells Z32 31 (0, 0)) := (b12.block _ (by omega)).trans HO1.out.2
  obtain ⟨a3, g3, c3, rfl, v3, hc3, hnil3, _⟩ := view_own2 own2 (fun i _ => by have := cat_lt (n := 64) (msk_lt (x := 54) (by decide) hB) hX i; omega) (by omega)
  have cs := rsum_any w2 a3 g3 0 (64 + m) c3 _ v3 (cat_lt (msk_lt (by decide) hB) hX) hnil3 (by omega) (HV.out.2.2.below b2').rounds (HV.out.2.2.below b2').rbig
  obtain ⟨D, hD⟩ : ∃ D, D = digest (64 + m) (cat 64 (msk 54 (blk n S)) X) := ⟨_, rfl⟩
  rw [← hD] at cs
  have HM : Hid (digest 96 (cat 64 (msk 92 (blk n S)) (hb D)) = hmac (blk n S) m X) := by unfold hmac; rw [hD]; rfl
  have HO2 : Hid (Below w.heap.size w w2 ∧ w2.heap[w.heap.size]? = some (.cells Z32 31 (0, 0))) := ⟨b2', o2⟩
  clear hD own1 own2 gr2 nn2 b12 b2' o2 v3 HO1 HV2 s1
  go_wp2_with fail
  refine cs.mono ?_
  rintro _ w3 ⟨rfl, hb3⟩
  have hl := hash_laid w3 D
  have HX : Hid (HashAt ((w3.alloc (.cells Z32 31)).setRow w3.heap.size (hashA D)) w3.heap.size D ∧ Below w.heap.size w ((w3.alloc (.cells Z32 31)).setRow w3.heap.size (hashA D)) ∧ ((w3.alloc (.cells Z32 31)).setRow w3.heap.size (hashA D)).heap[w.heap.size]? = some (.cells Z32 31 (0, 0)) ∧ w.heap.size < ((w3.alloc (.cells Z32 31)).setRow w3.heap.size (hashA D)).heap.size) := by
    have lt : w.heap.size < w2.heap.size := by
      by_cases e : w.heap.size < w2.heap.size
      · exact e
      · have hn : w2.heap[w.heap.size]? = none := by simp; omega
        rw [hn] at HO2
        cases HO2.out.2
    exact ⟨hl.1, ch HO2.out.1 (ch hb3 hl.2), ((ch hb3 hl.2).block _ lt).trans HO2.out.2, Nat.lt_of_lt_of_le lt (ch hb3 hl.2).size⟩
  clear hl hb3 cs HO2
  go_wp2_with (refine wpList_store_row (by rfl) 31 (.tmp 6) (.tmp 13) (by rfl) w3.heap.size (hashA D) (by rfl) (by rfl) 31 Z32 (heap_alloc_new _ _) (hashA_info _) (Z32_hash _) (hashA_one _) ?_; change wpList _ _ _ _ _ ((w3.alloc (.cells Z32 31)).setRow w3.heap.size (hashA D)); revert HX; generalize (w3.alloc (.cells Z32 31)).setRow w3.heap.size (hashA D) = w4; intro HX)
  have bd : Below w4.heap.size w4 w4.drew := (Below.refl _ _).drew
  have bw4 : Below w.heap.size w w4.drew := HX.out.2.1.drew
  have cb := rblock_any w4.drew a b off n c S (HV.out.1.below bw4) hS 92 (by decide) (HV.out.2.2.below bw4) hnil hn
  have vh := (hash_view HX.out.1).below bd
  have HVH : Hid (View w4.drew (some ⟨w3.heap.size, 0, none⟩) w3.heap.size 0 32 (fun i => ((hb D i : Nat) : Int))) := vh
  clear vh bd bw4
  refine wp_region_held_drew (S := fun _ => True) (by kernel_rfl) trivial ?_
  intro hS
  change wpAnyH _ _ _ _ _ 5 _ _ _
  refine wpAnyH_take (i := 0) (v := ?_) (by simp only [List.getElem?_toArray, List.getElem?_cons_zero]; rfl) (by kernel_rfl) (by kernel_rfl) (by kernel_rfl) (by exact fun _ _ _ h => h) (Or.inl ⟨by rfl, ?_⟩) trivial ?_
  rotate_left
  · intro w' _
    go_simp
    try with_reducible rfl
  refine wpAnyH_take (i := 2) (v := ?_) (by simp only [List.getElem?_toArray, List.getElem?_cons_zero, List.getElem?_cons_succ]; rfl) (by kernel_rfl) (by kernel_rfl) (by kernel_rfl) (by exact fun _ _ _ h => h) (Or.inl ⟨by rfl, ?_⟩) trivial ?_
  rotate_left
  · intro w' _
    go_simp
    try with_reducible rfl
  refine wpAnyH_ready (rs := [1]) (by kernel_rfl) (by simp) ?_
  refine AllReadyH.cons (by simp only [List.getElem?_toArray, List.getElem?_cons_zero, List.getElem?_cons_succ]; rfl) (fun K hK => ?_) AllReadyH.nil
  go_simp
  refine cb.mono ?_
  rintro _ w5 ⟨rfl, own5, hb5⟩
  have HV5 : Hid (View w5 (some ⟨w3.heap.size, 0, none⟩) w3.heap.size 0 32 (fun i => ((hb D i : Nat) : Int))) := HVH.out.below hb5
  have s5 : w4.heap.size ≤ w5.heap.size := hb5.size
  have b5 : Below w4.heap.size w4 w5 := Below.trans (Below.drew (Below.refl _ _)) hb5
  refine hK.out _ _ trivial (fun _ => ?_)
  clear hK K hb5 cb HVH
  refine wpAnyH_ready (rs := [3]) (by kernel_rfl) (by simp) ?_
  refine AllReadyH.cons (by simp only [List.getElem?_toArray, List.getElem?_cons_zero, List.getElem?_cons_succ]; rfl) (fun K hK => ?_) AllReadyH.nil
  refine step_append_bytes (by rfl) (.tmp 15) (.tmp 16) (by rfl) w4.heap.size _ 64 _ (by rfl) own5 (some ⟨w3.heap.size, 0, none⟩) w3.heap.size 0 32 32 _ (by rfl) HV5.out (fun h => by cases h) (by omega) s5 ?_
  intro v6 w6 own6 gr6 nn6
  rw [vals_cat] at own6
  have b6 : Below w4.heap.size w4 w6 := b5.trans (grown_below gr6 own5 (Nat.le_refl _) s5)
  refine hK.out _ _ trivial (fun _ => ?_)
  clear hK K gr6 nn6 own5 b5 s5 HV5
  refine wpAnyH_take (i := 4) (v := ?_) (by simp only [List.getElem?_toArray, List.getElem?_cons_zero, List.getElem?_cons_succ]; rfl) (by kernel_rfl) (by kernel_rfl) (by kernel_rfl) (by exact fun _ _ _ h => h) (Or.inl ⟨by rfl, ?_⟩) trivial ?_
  rotate_left
  · intro w' _
    go_simp
    try with_reducible rfl
  refine wpAnyH_done (by kernel_rfl) ?_ _
  obtain ⟨a7, g7, c7, rfl, v7, hc7, hnil7, _⟩ := view_own2 own6 (fun i _ => by have := cat_lt (n := 64) (msk_lt (x := 92) (by decide) hB) (hb_lt D) i; omega) (by decide)
  have bw6 : Below w.heap.size w w6 := ch HX.out.2.1 b6
  have cs := rsum_any w6 a7 g7 0 (64 + 32) c7 _ v7 (cat_lt (msk_lt (by decide) hB) (hb_lt D)) hnil7 (by decide) (HV.out.2.2.below bw6).rounds (HV.out.2.2.below bw6).rbig
  rw [show (64 + 32 : Nat) = 96 from rfl, HM.out] at cs
  have HZ : Hid (Below w.heap.size w w6 ∧ w6.heap[w.heap.size]? = some (.cells Z32 31 (0, 0)) ∧ w.heap.size < w6.heap.size) := ⟨bw6, (b6.block _ HX.out.2.2.2).trans HX.out.2.2.1, Nat.lt_of_lt_of_le HX.out.2.2.2 b6.size⟩
  clear own6 v7 b6 bw6 HX
  go_wp2_with fail
  refine cs.mono ?_
  rintro _ w8 ⟨rfl, hb8⟩
  have HQ : Hid (Below w.heap.size w w8 ∧ w8.heap[w.heap.size]? = some (.cells Z32 31 (0, 0))) := ⟨ch HZ.out.1 hb8, (hb8.block _ HZ.out.2.2).trans HZ.out.2.1⟩
  clear hb8 cs HZ
  obtain ⟨E, hE⟩ : ∃ E, E = hmac (blk n S) m X := ⟨_, rfl⟩
  rw [← hE]
  have HE : Hid (E = hmac (blk n S) m X) := hE
  clear hE HM
  go_wp2_with (refine wpList_store_row (by rfl) 31 (.tmp 4) (.tmp 19) (by rfl) w.heap.size (hashA E) (by rfl) (by rfl) 31 Z32 HQ.out.2 (hashA_info _) (Z32_hash _) (hashA_one _) ?_)
  refine bodyPost_ret (v := .agg (hashA E)) ?_ rfl ?_
  · exact results_cell_row rfl _ _ w.heap.size 31 (hashA E) (0, 0) _ rfl (setRow_heap _ _ _ _ _ _ HQ.out.2) Tryz.underlying31 rfl (hashA_info _)
  · exact ⟨by rw [HE.out], below_setRow HQ.out.1 (Nat.le_refl _) _⟩
end Go.Proofs.YtlhllbggnpcoaaaGreatDoor
