import Derived.Test.YtadcbhjmbgenbaaDoorRPadq
import Derived.Test.YtadcbhjmbgenbaaDoorRMixq
/-
  The sum: the document's way.
-/
namespace Go.Proofs.YtadcbhjmbgenbaaDoor
open Go.RowKit

theorem mixed_lit (w : World) (s s' : W8) (hs : Ok8 s) (a : Option Addr) (b off c : Nat) (B : Nat → Nat) (h : View w a b off 64 (fun i => (B i : Int))) (hB : ∀ i, B i < 256) (hK : Rounds w) (hw : 0 < w.heap.size) (e : fold1 s B = s') :
    Calls Tryd.prog 27 #[.agg #[.int .u32 s.a, .int .u32 s.b, .int .u32 s.c, .int .u32 s.d, .int .u32 s.e, .int .u32 s.f, .int .u32 s.g, .int .u32 s.h], .slice a 64 c] w fun e w' => e = .returned (.agg #[.int .u32 s'.a, .int .u32 s'.b, .int .u32 s'.c, .int .u32 s'.d, .int .u32 s'.e, .int .u32 s'.f, .int .u32 s'.g, .int .u32 s'.h]) ∧ Below w.heap.size w w' := by
  subst e
  exact mixed_any w s hs a b off c B h hB hK hw

structure Rs (w wr : World) (g T : Nat) (Y : Nat → Nat) (s : W8) : Prop where
  below : Below w.heap.size w wr
  size : w.heap.size + 2 ≤ wr.heap.size
  out : wr.rowIs w.heap.size 31 32 (fun _ => .int .u8 0)
  row : wr.rowIs (w.heap.size + 1) 61 8 (fun i => .int .u32 (w8 s i))
  view : View wr (some ⟨g, 0, none⟩) g 0 T (fun i => (Y i : Int))
  far : w.heap.size + 2 ≤ g
  rounds : Rounds wr
theorem Rs.next {w wr w2 : World} {g T : Nat} {Y : Nat → Nat} {s : W8} (h : Rs w wr g T Y s) (hb : Below wr.heap.size wr w2) (hw : 0 < w.heap.size) : Rs w w2 g T Y s := by
  have z := h.size
  exact ⟨h.below.trans (hb.mono (by omega)), Nat.le_trans h.size hb.size, h.out.of_block (hb.block _ (by omega)), h.row.of_block (hb.block _ (by omega)), h.view.below hb, h.far, h.rounds.below hb (by omega)⟩
theorem Rs.put8 {w wr : World} {g T : Nat} {Y : Nat → Nat} {s : W8} (h : Rs w wr g T Y s) (hw : 0 < w.heap.size) (s' : W8) : Rs w (eight wr (w.heap.size + 1) s') g T Y s' := by
  have sv : Save (w.heap.size + 1) wr (eight wr (w.heap.size + 1) s') := (Save.refl _ _).eight s'
  have z := h.size
  have f := h.far
  refine ⟨h.below.trans (sv.below (by omega) h.below.size), Nat.le_trans h.size sv.size, sv.row h.out (by omega), ?_, h.view.save sv (fun _ => by omega), h.far, fun i hi => (sv.cell (q := ⟨0, i, none⟩) (by show 0 < wr.heap.size; omega) (by show 0 ≠ w.heap.size + 1; omega)).trans (h.rounds i hi)⟩
  refine ((((((((h.row.set 0 _).set 1 _).set 2 _).set 3 _).set 4 _).set 5 _).set 6 _).set 7 _).congr (fun i hi => ?_)
  match i, hi with
  | 0, _ => rfl
  | 1, _ => rfl
  | 2, _ => rfl
  | 3, _ => rfl
  | 4, _ => rfl
  | 5, _ => rfl
  | 6, _ => rfl
  | 7, _ => rfl
theorem Rs.cells {w wr : World} {g T : Nat} {Y : Nat → Nat} {s : W8} (h : Rs w wr g T Y s) : Cells8 wr (w.heap.size + 1) s :=
  ⟨h.row.cell (i := 0) (by omega), h.row.cell (i := 1) (by omega), h.row.cell (i := 2) (by omega), h.row.cell (i := 3) (by omega), h.row.cell (i := 4) (by omega), h.row.cell (i := 5) (by omega), h.row.cell (i := 6) (by omega), h.row.cell (i := 7) (by omega)⟩
theorem Rs.thaw {w wr : World} {g T : Nat} {Y : Nat → Nat} {s : W8} (h : Rs w wr g T Y s) : Thaw8 wr (w.heap.size + 1) :=
  ⟨h.row.frozen 0, h.row.frozen 1, h.row.frozen 2, h.row.frozen 3, h.row.frozen 4, h.row.frozen 5, h.row.frozen 6, h.row.frozen 7⟩
def hstp (s : W8) (k i : Nat) : Nat := if i < k then hb s i else 0
theorem hstp_next (s : W8) (k i : Nat) : (if i = k then hb s k else hstp s k i) = hstp s (k + 1) i := by
  unfold hstp
  by_cases e : i = k
  · subst e
    rw [if_pos rfl, if_pos (by omega)]
  · rw [if_neg e]
    by_cases l : i < k
    · rw [if_pos l, if_pos (by omega)]
    · rw [if_neg l, if_neg (by omega)]

theorem rs_start {w w1 : World} {g T : Nat} {Y : Nat → Nat} (hb : Below (((w.alloc (.cells Z32 31)).alloc (.cells Z8 61)).setRow (w.heap.size + 1) (arr8 H0)).heap.size (((w.alloc (.cells Z32 31)).alloc (.cells Z8 61)).setRow (w.heap.size + 1) (arr8 H0)) w1)
    (hv : View w1 (some ⟨g, 0, none⟩) g 0 T (fun i => (Y i : Int))) (hg : w.heap.size + 2 ≤ g) (hK : Rounds w) (hw : 0 < w.heap.size) : Rs w w1 g T Y H0 := by
  have hs := hb.size
  simp only [size_setRow, World.size_alloc] at hs hb
  have n1 : ((w.alloc (.cells Z32 31)).alloc (.cells Z8 61)).heap[w.heap.size + 1]? = some (.cells Z8 61 (0, 0)) := by
    have e := heap_alloc_new (w.alloc (.cells Z32 31)) (.cells Z8 61)
    rwa [World.size_alloc] at e
  have b0 : Below w.heap.size w (((w.alloc (.cells Z32 31)).alloc (.cells Z8 61)).setRow (w.heap.size + 1) (arr8 H0)) := below_setRow (((Below.refl _ _).alloc (Nat.le_refl _) _).alloc (by simp) _) (by omega) _
  have b1 : Below w.heap.size w w1 := b0.trans (hb.mono (by omega))
  refine ⟨b1, by omega, ?_, (rowIs_setRow n1 rfl (fun i hi => arr8_cell H0 i hi)).of_block (hb.block _ (by omega)), hv, hg, hK.below b1 hw⟩
  have r : (w.alloc (.cells Z32 31)).rowIs w.heap.size 31 32 (fun _ => .int .u8 0) := by rw [Z32_rep]; exact zeros_row w _ 32 31
  exact ((r.alloc _).of_block (setRow_other _ _ _ _ (by omega))).of_block (hb.block _ (by omega))

set_option maxRecDepth 100000 in
set_option maxHeartbeats 4000000 in
theorem rsum_any (w : World) (a : Option Addr) (b off n c : Nat) (X : Nat → Nat) (hv : View w a b off n (fun i => (X i : Int))) (hX : ∀ i, X i < 256) (hnil : a = none → c = 0) (hn : n ≤ 140737488355200) (hK : Rounds w) (hw : 0 < w.heap.size) :
    Calls Tryd.prog 19 #[.slice a n c] w fun e w' => e = .returned (.agg (hashA (digest n X))) ∧ Below w.heap.size w w' := by
  have b0 : Below w.heap.size w (((w.alloc (.cells Z32 31)).alloc (.cells Z8 61)).setRow (w.heap.size + 1) (arr8 H0)) := below_setRow (((Below.refl _ _).alloc (Nat.le_refl _) _).alloc (by simp) _) (by omega) _
  have HB0 : Hid (Below w.heap.size w (((w.alloc (.cells Z32 31)).alloc (.cells Z8 61)).setRow (w.heap.size + 1) (arr8 H0))) := b0
  have n1 : ((w.alloc (.cells Z32 31)).alloc (.cells Z8 61)).heap[w.heap.size + 1]? = some (.cells Z8 61 (0, 0)) := by
    have e := heap_alloc_new (w.alloc (.cells Z32 31)) (.cells Z8 61)
    rwa [World.size_alloc] at e
  clear b0
  go_enter Tryd.func19, Tryd.ntmps19
  go_wp2_with (refine wpList_store_row (by rfl) 61 (.tmp 3) (.tmp 8) (by rfl) (w.heap.size + 1) (arr8 H0) (by rfl) (by rfl) 61 Z8 n1 (arr8_info _) rfl (arr8_one _) ?_)
  refine (padded_any _ a b off n c X (hv.below HB0.out) hX hnil hn).mono ?_
  rintro _ w1 ⟨g, cap, rfl, vw1, hcap, hg0, hb1⟩
  have e32 : (((w.alloc (.cells Z32 31)).alloc (.cells Z8 61)).setRow (w.heap.size + 1) (arr8 H0)).heap.size = w.heap.size + 2 := by simp
  have hg : w.heap.size + 2 ≤ g := Nat.le_trans (Nat.le_of_eq e32.symm) hg0
  have R0 : Rs w w1 g (n + zend n + 8) (cat n X (padb n)) H0 := rs_start hb1 vw1 hg hK hw
  have hT : (n + zend n + 8) % 64 = 0 := by
    have z1 := zend_pos n
    have := (zend_mod n (zend n) z1 (Nat.le_refl _)).2 rfl
    omega
  have zl := zend_le n
  have Hd : Hid (folds (cat n X (padb n)) ((n + zend n + 8) / 64) = digest n X) := by unfold digest; rw [Nat.add_assoc]; rfl
  have hY : ∀ i, cat n X (padb n) i < 256 := cat_lt hX (padb_lt n)
  obtain ⟨T, hTe⟩ : ∃ T, T = n + zend n + 8 := ⟨_, rfl⟩
  obtain ⟨Y, hYe⟩ : ∃ Y, Y = cat n X (padb n) := ⟨_, rfl⟩
  have T1 : T ≤ 140737488355328 := by omega
  have T0 : 0 < T := by omega
  rw [← hTe] at R0 hT Hd hcap ⊢
  rw [← hYe] at R0 Hd hY
  have HR0 : Hid (Rs w w1 g T Y H0) := R0
  clear hTe hYe R0 vw1 hb1 e32 hg hg0 HB0 n1 zl hv
  go_wp2_with fail
  go_loopg [5] T (fun gg i wr => ∃ k : Nat, k ≤ T ∧ k % 64 = 0 ∧ gg = T - k ∧ i = .int .i64 k ∧ Rs w wr g T Y (folds Y (k / 64)))
  case atStart => exact ⟨0, by omega, by omega, rfl, rfl, HR0.out⟩
  case round =>
    obtain ⟨k, hk, hk64, rfl, rfl, hR⟩ := hrel
    clear HR0
    by_cases hkT : k < T
    · have hk2 : k + 64 ≤ T := by omega
      have ok := folds_ok Y (k / 64)
      have vb : View wr (some ⟨g, k, none⟩) g k 64 (fun i => ((Y (k + i) : Nat) : Int)) := ⟨fun _ => rfl, fun i hi => by have c := hR.view.cell (k + i) (by omega); rw [Nat.zero_add] at c; exact c, fun i hi => hR.view.bd (k + i) (by omega), by omega⟩
      have Hf : Hid (fold1 (folds Y (k / 64)) (fun i => Y (k + i)) = folds Y ((k + 64) / 64)) := by
        show _ = _
        rw [show (k + 64) / 64 = k / 64 + 1 by omega]
        simp only [folds]
        rw [show 64 * (k / 64) = k by omega]
      obtain ⟨s, hs⟩ : ∃ s, s = folds Y (k / 64) := ⟨_, rfl⟩
      obtain ⟨s', hs'⟩ : ∃ s, s = folds Y ((k + 64) / 64) := ⟨_, rfl⟩
      rw [← hs] at ok hR Hf
      rw [← hs'] at Hf
      have Hs' : Hid (s' = folds Y ((k + 64) / 64)) := hs'
      have hy : ∀ i, (fun i => Y (k + i)) i < 256 := fun i => hY _
      have HR : Hid (Rs w wr g T Y s ∧ View wr (some ⟨g, k, none⟩) g k 64 (fun i => ((Y (k + i) : Nat) : Int))) := ⟨hR, vb⟩
      have ⟨c0, c1, c2, c3, c4, c5, c6, c7⟩ := hR.cells
      have ⟨f0, f1, f2, f3, f4, f5, f6, f7⟩ := hR.thaw
      have q1 : (k : Int) + 64 ≤ (cap : Int) := by omega
      have q2 : (0 : Int) ≤ (k : Int) := by omega
      have q3 : (k : Int) ≤ (k : Int) + 64 := by omega
      have q4 : ¬ cap = k := by omega
      have q5 : IntKind.i64.wrap ((k : Int) + 64) = (k : Int) + 64 := by rw [IntKind.wrap_i64]; omega
      have q6 : ((k : Int) + 64).toNat = k + 64 := by omega
      have q7 : k + 64 - k = 64 := by omega
      have bd : Below wr.heap.size wr wr.drew := (Below.refl _ _).drew
      have z2 := hR.size
      clear hs hs' hR vb
      go_wp2_with fail
      go_region_with (go_at_call 27; refine (mixed_lit _ s s' ok _ g k _ (fun i => Y (k + i)) (HR.out.2.below bd) hy (HR.out.1.next bd hw).rounds (by show 0 < wr.heap.size; omega) Hf.out).mono ?_; rintro _ w2 ⟨rfl, hb2⟩; have ⟨c0, c1, c2, c3, c4, c5, c6, c7⟩ := ((HR.out.1.next bd hw).next hb2 hw).cells; have ⟨f0, f1, f2, f3, f4, f5, f6, f7⟩ := ((HR.out.1.next bd hw).next hb2 hw).thaw)
      have r2 : Rs w (eight w2 (w.heap.size + 1) s') g T Y s' := ((HR.out.1.next bd hw).next hb2 hw).put8 hw s'
      obtain ⟨wn, hwn⟩ : ∃ x, x = eight w2 (w.heap.size + 1) s' := ⟨_, rfl⟩
      rw [← hwn] at r2
      delta eight at hwn
      rw [← hwn]
      rw [Hs'.out] at r2
      have HN : Hid (Rs w wn g T Y (folds Y ((k + 64) / 64))) := r2
      clear r2 hwn c0 c1 c2 c3 c4 c5 c6 c7 f0 f1 f2 f3 f4 f5 f6 f7 hb2 HR bd
      go_wp2_with fail
      go_roundg (T - (k + 64))
      case measure => omega
      case rel => exact ⟨k + 64, by omega, by omega, rfl, by go_num, HN.out⟩
    · have hkT2 : k = T := by omega
      have HR : Hid (Rs w wr g T Y (digest n X)) := by
        have e : folds Y (k / 64) = digest n X := by rw [hkT2]; exact Hd.out
        show Rs w wr g T Y (digest n X)
        rw [← e]
        exact hR
      have okd : Ok8 (digest n X) := by unfold digest; exact folds_ok _ _
      have k1 : T ≤ k := by omega
      have z2 := hR.size
      clear hR hkT2
      obtain ⟨sd, hsd⟩ : ∃ s, s = digest n X := ⟨_, rfl⟩
      rw [← hsd] at HR okd
      have Hsd : Hid (sd = digest n X) := hsd
      clear hsd Hd
      have HF3 : Hid (SF3 w (wr.alloc (.cells Z32 31)) wr.heap.size (fun _ => 0) ∧ (wr.alloc (.cells Z32 31)).rowIs (w.heap.size + 1) 61 8 (fun i => .int .u32 (w8 sd i))) := by
        refine ⟨⟨HR.out.below.alloc HR.out.below.size _, z2, HR.out.out.alloc _, ?_⟩, HR.out.row.alloc _⟩
        rw [Z32_rep]
        exact zeros_row wr _ 32 31
      clear HR
      go_wp2_with fail
      obtain ⟨g6, hg6⟩ : ∃ g, g = wr.heap.size := ⟨_, rfl⟩
      rw [← hg6] at HF3 ⊢
      clear hg6
      go_loopg [7] 32 (fun gg i wx => ∃ j : Nat, j ≤ 32 ∧ gg = 32 - j ∧ i = .int .i64 j ∧ SF3 w wx g6 (hstp sd j) ∧ wx.rowIs (w.heap.size + 1) 61 8 (fun i => .int .u32 (w8 sd i)))
      case atStart => exact ⟨0, by omega, rfl, rfl, HF3.out.1.congr (fun i _ => by simp [hstp]), HF3.out.2⟩
      case round =>
        clear HF3
        obtain ⟨j, hj, rfl, rfl, hR, hr8⟩ := hrel
        by_cases hj32 : j < 32
        · have cw := hr8.cell (i := j / 4) (by omega)
          have lx := w8_lt okd (j / 4)
          obtain ⟨x, hx⟩ : ∃ x, x = w8 sd (j / 4) := ⟨_, rfl⟩
          rw [← hx] at cw lx
          have gj := hR.row.cell (i := j) (by omega)
          have fj := hR.row.frozen j
          have HR : Hid (SF3 w wr g6 (hstp sd j) ∧ wr.rowIs (w.heap.size + 1) 61 8 (fun i => .int .u32 (w8 sd i)) ∧ x = w8 sd (j / 4)) := ⟨hR, hr8, hx⟩
          have m1 : (0 : Int) ≤ (j : Int) / 4 := by omega
          have m2 : (j : Int) / 4 < 8 := by omega
          have m3 : ((j : Int) / 4).toNat = j / 4 := by omega
          have m4 : (0 : Int) ≤ 24 - 8 * ((j : Int) % 4) := by omega
          have m5 : (24 - 8 * ((j : Int) % 4)).toNat = 24 - 8 * (j % 4) := by omega
          clear hR hr8 hx
          go_wp2_with fail
          have V : (x : Int) / 2 ^ (24 - 8 * (j % 4)) % 256 = ((hb sd j : Nat) : Int) := by
            unfold hb
            rw [← HR.out.2.2]
            simp
          rw [V]
          clear cw gj fj V m1 m2 m3 m4 m5
          go_roundg (32 - (j + 1))
          case measure => omega
          case rel => exact ⟨j + 1, by omega, rfl, by go_num, (HR.out.1.set j _).congr (fun i _ => hstp_next sd j i), HR.out.2.1.setOther (by have := HR.out.1.far; show w.heap.size + 1 ≠ g6; omega) _⟩
        · have : j = 32 := by omega
          subst this
          obtain ⟨cs, hg, hsz, hcs⟩ := hR.row
          obtain ⟨os, og, osz, _⟩ := hR.out
          have hi : (Tryd.prog.info? 31).map (·.size) = some cs.size := by rw [hsz]; exact info26
          have h1 : cs.all (·.oneCell') = true := all_one (fun i hi => ⟨_, _, hcs i (by omega)⟩)
          have HR : Hid (SF3 w wr g6 (hstp sd 32)) := hR
          clear hR hr8
          go_wp2_with (first
            | refine wpList_load_row (by rfl) 31 (.tmp 6) (by rfl) g6 (by rfl) 31 cs (0, 0) _ hg Tryd.underlying31 rfl hi ?_
            | refine wpList_store_row (by rfl) 31 (.tmp 2) (.tmp 40) (by rfl) w.heap.size cs (by rfl) (by rfl) 31 os og hi (by omega) h1 ?_)
          refine bodyPost_ret (v := .agg cs) ?_ rfl ?_
          · exact results_cell_row rfl _ _ w.heap.size 31 cs (0, 0) _ rfl (setRow_heap _ _ _ _ _ _ og) Tryd.underlying31 rfl hi
          · exact ⟨by rw [← Hsd.out, hashA_of hsz (fun i hi => by rw [hcs i hi]; unfold hstp; rw [if_pos hi])], below_setRow HR.out.below (Nat.le_refl _) _⟩
end Go.Proofs.YtadcbhjmbgenbaaDoor
