/-
  The law's 'known'.
-/
import Derived.Test.YtleabfmlokjllaaDoorMacF
namespace Go.Proofs.YtleabfmlokjllaaDoor
open Go.RowKit Go.Sort

set_option maxRecDepth 100000 in
set_option maxHeartbeats 1600000 in
theorem known_any (w : World) (s t : ByteArray) (f l : Nat) (hs : s.size ≤ 1000000) (ht : t.size ≤ 1000000) (hG : Ground w) (D : W8) (hD : hmac (blk s.size (byt s)) t.size (byt t) = D) (hf : be (hb D) 0 = f) (hl : hb D 31 = l) :
    Calls Tryd.prog 10 #[.string s, .string t, .int .u32 f, .int .u8 l] w fun e w' => e = .returned (.bool true) ∧ Below w.heap.size w w' := by
  have cv := run_bytes_of_string (P := Tryd.prog) w 9 22 5 s Tryd.underlying9 Tryd.underlying22 Tryd.underlying5
  have cg := grownCap_ge w s.size 0 5
  have vt := view_text w s (by omega)
  obtain ⟨cap, hcap⟩ : ∃ c, c = grownCap w s.size 0 5 := ⟨_, rfl⟩
  rw [← hcap] at cv cg vt
  have b1 : Below w.heap.size w (w.drew.alloc (.cells (bytesRow s cap) 5 ((bytesRow s cap).size, (bytesRow s cap).size + 1))) := ((Below.refl _ _).drew).alloc (Nat.le_refl _) _
  have z1 : (w.drew.alloc (.cells (bytesRow s cap) 5 ((bytesRow s cap).size, (bytesRow s cap).size + 1))).heap.size = w.heap.size + 1 := by simp
  obtain ⟨w1, hw1⟩ : ∃ x, x = w.drew.alloc (.cells (bytesRow s cap) 5 ((bytesRow s cap).size, (bytesRow s cap).size + 1)) := ⟨_, rfl⟩
  rw [← hw1] at cv vt b1 z1
  clear hw1 hcap
  have cv2 := run_bytes_of_string (P := Tryd.prog) w1 9 22 5 t Tryd.underlying9 Tryd.underlying22 Tryd.underlying5
  have cg2 := grownCap_ge w1 t.size 0 5
  have vt2 := view_text w1 t (by omega)
  obtain ⟨cap2, hcap2⟩ : ∃ c, c = grownCap w1 t.size 0 5 := ⟨_, rfl⟩
  rw [← hcap2] at cv2 cg2 vt2
  have b2 : Below w1.heap.size w1 (w1.drew.alloc (.cells (bytesRow t cap2) 5 ((bytesRow t cap2).size, (bytesRow t cap2).size + 1))) := ((Below.refl _ _).drew).alloc (Nat.le_refl _) _
  have z2 : (w1.drew.alloc (.cells (bytesRow t cap2) 5 ((bytesRow t cap2).size, (bytesRow t cap2).size + 1))).heap.size = w.heap.size + 2 := by simp [z1]
  obtain ⟨w2, hw2⟩ : ∃ x, x = w1.drew.alloc (.cells (bytesRow t cap2) 5 ((bytesRow t cap2).size, (bytesRow t cap2).size + 1)) := ⟨_, rfl⟩
  rw [← hw2] at cv2 vt2 b2 z2
  rw [z1] at vt2 cv2
  clear hw2 hcap2
  have b3 : Below w2.heap.size w2 (w2.alloc (.cells #[.slice (some ⟨w.heap.size + 1, 0, none⟩) t.size cap2] 22)) := (Below.refl _ _).alloc (Nat.le_refl _) _
  have b03 : Below w.heap.size w (w2.alloc (.cells #[.slice (some ⟨w.heap.size + 1, 0, none⟩) t.size cap2] 22)) := ch (ch b1 b2) b3
  have cm := mcodes_any _ (some ⟨w.heap.size, 0, none⟩) w.heap.size 0 s.size cap (byt s) (vt.below (ch b2 b3)) cg (byt_lt s) (some ⟨w2.heap.size, 0, none⟩) w2.heap.size 0 1 1 _ _ _ _ _ _ (parts_one vt2 cg2 (byt_lt t) 22) (hG.below b03) (by omega) (by rw [tot_one]; omega)
  rw [tot_one, z2] at cm
  have e1 : jn (fun _ => t.size) (fun _ => byt t) 1 = byt t := by
    funext i
    simp [jn, cat, tot]
  rw [e1, hD] at cm
  have HB : Hid (Below w.heap.size w (w2.alloc (.cells #[.slice (some ⟨w.heap.size + 1, 0, none⟩) t.size cap2] 22))) := b03
  have HL : Hid (be (hb D) 0 = f ∧ hb D 31 = l) := ⟨hf, hl⟩
  clear b3 b03 b1 b2 vt vt2 hG hD e1 hf hl
  go_enter Tryd.func10, Tryd.ntmps10
  go_wp2_with fail
  refine cm.mono ?_
  rintro _ w3 ⟨rfl, hb3⟩
  have hla := hash_laid w3 D
  have HX : Hid (HashAt ((w3.alloc (.cells Z32 24)).setRow w3.heap.size (hashA D)) w3.heap.size D ∧ Below w.heap.size w ((w3.alloc (.cells Z32 24)).setRow w3.heap.size (hashA D))) := ⟨hla.1, ch (ch HB.out hb3) hla.2⟩
  clear hla hb3 cm cv cv2 HB
  have hbb := hb_lt D
  obtain ⟨x0, hx0⟩ : ∃ x, x = hb D 0 := ⟨_, rfl⟩
  obtain ⟨x1, hx1⟩ : ∃ x, x = hb D 1 := ⟨_, rfl⟩
  obtain ⟨x2, hx2⟩ : ∃ x, x = hb D 2 := ⟨_, rfl⟩
  obtain ⟨x3, hx3⟩ : ∃ x, x = hb D 3 := ⟨_, rfl⟩
  have sp := be_spelt hbb 0
  simp only [Nat.mul_zero, Nat.zero_add] at sp
  rw [HL.out.1] at sp
  have l0 : x0 < 256 := by rw [hx0]; exact hbb 0
  have l1 : x1 < 256 := by rw [hx1]; exact hbb 1
  have l2 : x2 < 256 := by rw [hx2]; exact hbb 2
  have l3 : x3 < 256 := by rw [hx3]; exact hbb 3
  rw [← hx0, ← hx1, ← hx2, ← hx3] at sp
  rw [show ((x0 : Nat) : Int) % 4294967296 * 16777216 % 4294967296 = (x0 : Int) * 16777216 by omega, show ((x1 : Nat) : Int) % 4294967296 * 65536 % 4294967296 = (x1 : Int) * 65536 by omega, show ((x2 : Nat) : Int) % 4294967296 * 256 % 4294967296 = (x2 : Int) * 256 by omega, show ((x3 : Nat) : Int) % 4294967296 = (x3 : Int) by omega] at sp
  have HC : Hid (x0 = hb D 0 ∧ x1 = hb D 1 ∧ x2 = hb D 2 ∧ x3 = hb D 3) := ⟨hx0, hx1, hx2, hx3⟩
  clear hx0 hx1 hx2 hx3 hbb
  go_wp2_with (refine wpList_store_row (by rfl) 24 (.tmp 9) (.tmp 15) (by rfl) w3.heap.size (hashA D) (by rfl) (by rfl) 24 Z32 (heap_alloc_new _ _) (hashA_info _) (Z32_hash _) (hashA_one _) ?_; change wpList _ _ _ _ _ ((w3.alloc (.cells Z32 24)).setRow w3.heap.size (hashA D)); revert HX; generalize (w3.alloc (.cells Z32 24)).setRow w3.heap.size (hashA D) = w4; intro HX; have c0 : w4.cell? ⟨w3.heap.size, 0, none⟩ = some (.int .u8 x0) := (by rw [HC.out.1, HX.out.1.cells 0 (by rw [hashA_size]; decide), hashA_cell D 0 (by decide)]); have c1 : w4.cell? ⟨w3.heap.size, 1, none⟩ = some (.int .u8 x1) := (by rw [HC.out.2.1, HX.out.1.cells 1 (by rw [hashA_size]; decide), hashA_cell D 1 (by decide)]); have c2 : w4.cell? ⟨w3.heap.size, 2, none⟩ = some (.int .u8 x2) := (by rw [HC.out.2.2.1, HX.out.1.cells 2 (by rw [hashA_size]; decide), hashA_cell D 2 (by decide)]); have c3 : w4.cell? ⟨w3.heap.size, 3, none⟩ = some (.int .u8 x3) := (by rw [HC.out.2.2.2, HX.out.1.cells 3 (by rw [hashA_size]; decide), hashA_cell D 3 (by decide)]); have c31 : w4.cell? ⟨w3.heap.size, 31, none⟩ = some (.int .u8 l) := (by rw [← HL.out.2, HX.out.1.cells 31 (by rw [hashA_size]; decide), hashA_cell D 31 (by decide)]))
  go_ret
  exact ⟨rfl, HX.out.2⟩
end Go.Proofs.YtleabfmlokjllaaDoor
