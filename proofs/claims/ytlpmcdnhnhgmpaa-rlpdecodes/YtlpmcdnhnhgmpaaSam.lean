/-
  cairnref05.Same of an item and itself, wherever the two lie.
-/
import Derived.Test.YtlpmcdnhnhgmpaaMb
namespace Go.Proofs.Ytlpmcdnhnhgmpaa
open Go.RowKit

set_option maxRecDepth 100000 in
set_option maxHeartbeats 3200000 in
theorem same_any : ∀ (x : It) (w : World) (vb vi vb' vi' : Value), Lies Vb w x vb vi → Lies Vb w x vb' vi' →
    Calls Try.prog 10 #[iv x.l vb vi, iv x.l vb' vi'] w fun e w' => e = .returned (.bool true) ∧ Below w.heap.size w w' := by
  refine It.ind (fun l b xs ih => ?_)
  intro w vb vi vb' vi' h h'
  obtain ⟨a1, c1, a, c, blk, off, rfl, rfl, hB, hI⟩ := h.opened
  obtain ⟨a1', c1', a', c', blk', off', rfl, rfl, hB', hI'⟩ := h'.opened
  obtain ⟨a2, b2, off2, c2, e, hv, -, -, -⟩ := hB
  injection e with e1 _ e3
  subst e1
  subst e3
  obtain ⟨a2', b2', off2', c2', e, hv', -, -, -⟩ := hB'
  injection e with e1 _ e3
  subst e1
  subst e3
  show Calls Try.prog 10 #[iv l _ _, iv l _ _] w _
  obtain ⟨n, en⟩ : ∃ n, n = xs.length := ⟨_, rfl⟩
  have HN : Hid (n = xs.length) := en
  obtain ⟨nb, enb⟩ : ∃ n, n = b.length := ⟨_, rfl⟩
  have hn := hI.hn
  obtain ⟨W, eW⟩ : ∃ W, W = (w.alloc (.cells #[.bool l, .slice a1 nb c1, .slice a n c] 34)).alloc (.cells #[.bool l, .slice a1' nb c1', .slice a' n c'] 34) := ⟨_, rfl⟩
  have bW : Below w.heap.size w W := by rw [eW]; exact ch (below_alloc _ _) (below_alloc _ _)
  have cv1 := convert_view (hv.below bW) c1
  have cv2 := convert_view (hv'.below bW) c1'
  rw [← enb] at cv1 cv2 ⊢
  rw [← en] at hn ⊢
  generalize str nb (fun i => ((gd b i : Nat) : Int)) = S at cv1 cv2
  have HI : Hid (Its Vb w xs a blk off ∧ Its Vb w xs a' blk' off') := ⟨hI, hI'⟩
  have HB : Hid (Below w.heap.size w W) := bW
  have HBX : Hid (∀ wr, Below W.heap.size W wr → (wr.cell? ⟨w.heap.size, 0, none⟩ = some (.bool l) ∧ wr.cell? ⟨w.heap.size, 1, none⟩ = some (.slice a1 nb c1) ∧ wr.cell? ⟨w.heap.size, 2, none⟩ = some (.slice a n c)) ∧ (wr.cell? ⟨w.heap.size + 1, 0, none⟩ = some (.bool l) ∧ wr.cell? ⟨w.heap.size + 1, 1, none⟩ = some (.slice a1' nb c1') ∧ wr.cell? ⟨w.heap.size + 1, 2, none⟩ = some (.slice a' n c'))) := fun wr h => by
    rw [eW] at h
    have h2 := box_keep h
    simp only [World.size_alloc] at h2
    have h1 : Below (w.alloc (.cells #[.bool l, .slice a1 nb c1, .slice a n c] 34)).heap.size (w.alloc (.cells #[.bool l, .slice a1 nb c1, .slice a n c] 34)) wr := ch (below_alloc _ _) h
    exact ⟨box_keep h1, h2⟩
  rw [eW] at cv1 cv2
  have HW : Hid (W = (w.alloc (.cells #[.bool l, .slice a1 nb c1, .slice a n c] 34)).alloc (.cells #[.bool l, .slice a1' nb c1', .slice a' n c'] 34)) := eW
  clear eW
  clear hI hI' h h' en enb hv hv' bW
  have ne1 : (l != l) = false := by simp
  go_enter Try.func10, Try.ntmps10
  go_wp2_with fail
  rw [← HW.out]
  clear cv1 cv2 ne1
  go_loopg [32] n (fun gg k wr => ∃ (i : Nat), i ≤ n ∧ gg = n - i ∧ k = .int .i64 i ∧ Below W.heap.size W wr)
  case atStart => exact ⟨0, Nat.zero_le _, rfl, rfl, Below.refl _ _⟩
  case round =>
    obtain ⟨i, hi, rfl, rfl, hb⟩ := hrel
    have HBB : Hid (Below W.heap.size W wr) := hb
    obtain ⟨⟨x0, x1, x2⟩, y0, y1, y2⟩ := HBX.out wr hb
    by_cases hin : i < n
    · have i1 : (i : Int) < (n : Int) := by omega
      have hbw := ch HB.out hb
      obtain ⟨rfl, x, e1, n1, k1, e2, n2, k2, hx, hxm, d0, d1, d2, hL⟩ := HI.out.1.nth hbw (i := i) (by have := HN.out; omega)
      obtain ⟨rfl, x', e1', n1', k1', e2', n2', k2', hx', -, d0', d1', d2', hL'⟩ := HI.out.2.nth hbw (i := i) (by have := HN.out; omega)
      have exx : x' = x := Option.some.inj (hx'.symm.trans hx)
      subst exx
      have HK : Hid (Calls Try.prog 10 #[iv x'.l (.slice e1 n1 k1) (.slice e2 n2 k2), iv x'.l (.slice e1' n1' k1') (.slice e2' n2' k2')] wr.drew fun e w' => e = .returned (.bool true) ∧ Below wr.drew.heap.size wr.drew w') := ih x' hxm _ _ _ _ _ (hL.keep ((Below.refl _ wr).drew)) (hL'.keep ((Below.refl _ wr).drew))
      have HS : Hid (∀ w', Below wr.heap.size wr w' → w'.cell? ⟨w.heap.size, 2, none⟩ = some (.slice (some ⟨blk, off, none⟩) n c) ∧ w'.cell? ⟨w.heap.size + 1, 2, none⟩ = some (.slice (some ⟨blk', off', none⟩) n c') ∧ w'.cell? ⟨blk, off + i * 3, none⟩ = some (.bool x'.l) ∧ w'.cell? ⟨blk, off + i * 3 + 1, none⟩ = some (.slice e1 n1 k1) ∧ w'.cell? ⟨blk, off + i * 3 + 2, none⟩ = some (.slice e2 n2 k2) ∧ w'.cell? ⟨blk', off' + i * 3, none⟩ = some (.bool x'.l) ∧ w'.cell? ⟨blk', off' + i * 3 + 1, none⟩ = some (.slice e1' n1' k1') ∧ w'.cell? ⟨blk', off' + i * 3 + 2, none⟩ = some (.slice e2' n2' k2')) := fun w' k => by
        have l1 : blk < wr.heap.size := World.block_lt_of_cell? _ _ d0
        have l2 : blk' < wr.heap.size := World.block_lt_of_cell? _ _ d0'
        have hx := HBX.out w' (ch HBB.out k)
        exact ⟨hx.1.2.2, hx.2.2.2, (k.cell l1).trans d0, (k.cell l1).trans d1, (k.cell l1).trans d2, (k.cell l2).trans d0', (k.cell l2).trans d1', (k.cell l2).trans d2'⟩
      clear hb hbw hx hx' hxm hL hL' ih
      go_wp2_with fail
      go_region_held3 (fun w' => w'.cell? ⟨w.heap.size, 2, none⟩ = some (.slice (some ⟨blk, off, none⟩) n c) ∧ w'.cell? ⟨w.heap.size + 1, 2, none⟩ = some (.slice (some ⟨blk', off', none⟩) n c') ∧ w'.cell? ⟨blk, off + i * 3, none⟩ = some (.bool x'.l) ∧ w'.cell? ⟨blk, off + i * 3 + 1, none⟩ = some (.slice e1 n1 k1) ∧ w'.cell? ⟨blk, off + i * 3 + 2, none⟩ = some (.slice e2 n2 k2) ∧ w'.cell? ⟨blk', off' + i * 3, none⟩ = some (.bool x'.l) ∧ w'.cell? ⟨blk', off' + i * 3 + 1, none⟩ = some (.slice e1' n1' k1') ∧ w'.cell? ⟨blk', off' + i * 3 + 2, none⟩ = some (.slice e2' n2' k2'))
        (first | (exact HS.out _ (by assumption)) | (exact HS.out _ (Below.drew (Below.refl _ _))))
        (first | (go_at_call 10; refine HK.out.mono ?_; rintro e w3 ⟨rfl, hb3⟩; have hb4 : Below wr.heap.size wr w3 := ch (Below.drew (Below.refl _ _)) hb3; clear hb3))
      have HZ : Hid (Below W.heap.size W w3) := ch HBB.out hb4
      clear hb4
      go_wp2_with fail
      go_roundg (n - (i + 1))
      case measure => omega
      case rel => exact ⟨i + 1, hin, rfl, by go_num, HZ.out⟩
    · have i1 : ¬ (i : Int) < (n : Int) := by omega
      clear ih
      go_wp2_with fail
      go_ret
      exact ⟨rfl, ch HB.out HBB.out⟩
end Go.Proofs.Ytlpmcdnhnhgmpaa
