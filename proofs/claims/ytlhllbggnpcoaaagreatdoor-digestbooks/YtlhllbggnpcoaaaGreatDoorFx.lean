import Derived.Test.YtlhllbggnpcoaaaGreatDoorTwo4
import Derived.Lib.SlBytesConst
/-
  The laws' own fixed: two books, hashes whose first bytes are known.
-/
namespace Go.Proofs.YtlhllbggnpcoaaaGreatDoor
open Go.RowKit Go.Sort Go.Maps

def tA : List Nat := [97, 98, 99]
def tX : List Nat := [120]
def dA : W8 := ⟨0xba7816bf, 0x8f01cfea, 0x414140de, 0x5dae2223, 0xb00361a3, 0x96177a9c, 0xb410ff61, 0xf20015ad⟩
theorem dabc : digest 3 (gd tA) = dA := by rw [digest_ego]; kernel_rfl
theorem gd_kh (bits : Nat) (s : List Nat) {i : Nat} (hi : i < 32) : gd (kh bits s) i = keep (stay bits i) (hb (digest s.length (gd s)) i) := by
  unfold kh
  rw [lst_gd hi]
  unfold cutf sum
  rw [lst_gd hi]
theorem khA (bits i x : Nat) (hi : i < 32) (h : keep (stay bits i) (hb dA i) = x) : gd (kh bits tA) i = x := by rw [gd_kh bits tA hi, show tA.length = 3 from rfl, dabc]; exact h
theorem view_const (w : World) (t : List Nat) (h : ∀ x ∈ t, x < 256) (hl : t.length ≤ 1000) (C : Array Value) (hC : C = (bv t).toArray) (fz : Nat × Nat) : Vw (w.alloc (.cells C 5 fz)) (some ⟨w.heap.size, 0, none⟩) w.heap.size 0 t := by
  refine ⟨fun _ => rfl, fun i hi => ?_, fun i _ => by have := gd_lt h i; omega, by omega⟩
  rw [cell_of_row _ _ _ _ 5 _ (heap_alloc_new w _), hC, Nat.zero_add, List.getElem?_toArray]
  exact bv_at hi
theorem view_nil (w : World) : View w none 0 0 0 (fun i => (((fun _ => 0 : Nat → Nat) i : Nat) : Int)) := ⟨fun h => absurd h (by decide), fun i hi => absurd hi (by omega), fun i hi => absurd hi (by omega), by decide⟩
theorem lone_one (κ : List Nat → List Nat) (s : List Nat) : Lone κ [s] := List.pairwise_singleton _ _
theorem lone_nil (κ : List Nat → List Nat) : Lone κ [] := List.Pairwise.nil
theorem cell_hA {w : World} {g : Nat} {k : List Nat} (hk : IsH k) (h : w.heap[g]? = some (.cells (hA k) 31 (0, 0))) {i x : Nat} (hi : i < 32) (hx : gd k i = x) : w.cell? ⟨g, i, none⟩ = some (.int .u8 x) := by
  rw [cell_of_row w g i _ 31 _ h, hA_cell hk i hi, hx]

set_option maxRecDepth 100000 in
set_option maxHeartbeats 4000000 in
theorem fixed_any (w : World) (hG : Ground w) : Calls Tryz.prog 15 #[] w fun e w' => e = .returned (.bool true) ∧ Below w.heap.size w w' := by
  have z64 := (zero_of_info infoH).1
  have cvA : ∀ W : World, (convert 26 26 (.slice (some ⟨W.heap.size, 0, none⟩) 3 3)).run Tryz.prog (W.alloc (.cells #[.int .u8 97, .int .u8 98, .int .u8 99] 5)) = .ok (.slice (some ⟨W.heap.size, 0, none⟩) 3 3) (W.alloc (.cells #[.int .u8 97, .int .u8 98, .int .u8 99] 5 (3, 4))) := fun W => Lib.run_convert_bytes_const (P := Tryz.prog) W 26 5 #[.int .u8 97, .int .u8 98, .int .u8 99] 3 3 Tryz.underlying26 Tryz.underlying5
  have cvX : ∀ W : World, (convert 26 26 (.slice (some ⟨W.heap.size, 0, none⟩) 1 1)).run Tryz.prog (W.alloc (.cells #[.int .u8 120] 5)) = .ok (.slice (some ⟨W.heap.size, 0, none⟩) 1 1) (W.alloc (.cells #[.int .u8 120] 5 (1, 2))) := fun W => Lib.run_convert_bytes_const (P := Tryz.prog) W 26 5 #[.int .u8 120] 1 1 Tryz.underlying26 Tryz.underlying5
  have HG : Hid (Ground w) := hG
  clear hG
  go_enter Tryz.func15, Tryz.ntmps15
  go_wp2_with fail
  refine (secret_any w none 0 0 0 0 (fun _ => 0) (view_nil w) (fun _ => by decide)).mono ?_
  rintro _ w1 ⟨a1, g1, c1, rfl, _, _, _, hv1, _, hb1⟩
  obtain ⟨S, hS⟩ : ∃ S, S = lst 32 (secf 0 (fun _ => 0)) := ⟨_, rfl⟩
  rw [← hS] at hv1
  have HS : Hid (S.length = 32) := by rw [hS]; exact lst_len _ _
  have n1 := new_ok w1 256 256 a1 g1 0 c1 S hv1 (by decide) (by decide) HS.out w.heap.size hb1.size
  have H1 : Hid (Below w.heap.size w w1) := hb1
  clear hb1 hv1
  go_wp2_with fail
  refine n1.mono ?_
  rintro _ w2 ⟨sb1, F1, rfl, hb2, bk1, hf1⟩
  have H2 : Hid (Below w1.heap.size w1 w2 ∧ Book w2 w.heap.size sb1 ⟨256, 256, gd S, [], [], []⟩ F1) := ⟨hb2, bk1⟩
  clear hb2 bk1 hf1 n1
  go_wp2_with fail
  refine (secret_any w2 none 0 0 0 0 (fun _ => 0) (view_nil w2) (fun _ => by decide)).mono ?_
  rintro _ w3 ⟨a3, g3, c3, rfl, _, _, _, hv3, _, hb3⟩
  rw [← hS] at hv3
  have n2 := new_ok w3 12 8 a3 g3 0 c3 S hv3 (by decide) (by decide) HS.out w.heap.size (Nat.le_trans H1.out.size (Nat.le_trans H2.out.1.size hb3.size))
  have H3 : Hid (Below w2.heap.size w2 w3) := hb3
  clear hb3 hv3 hS
  go_wp2_with fail
  refine n2.mono ?_
  rintro _ w4 ⟨sb2, F2, rfl, hb4, bk2, hf2⟩
  have HT : Hid (Two4 w w4 sb1 ⟨256, 256, gd S, [], [], []⟩ sb2 ⟨12, 8, gd S, [], [], []⟩ []) :=
    two_new HG.out H1.out H2.out.1 H2.out.2 (ch H3.out hb4) bk2 (fun i q => Nat.le_trans H3.out.size (hf2 i q))
  clear hb4 bk2 hf2 n2 H1 H2 H3
  -- b.Hash
  obtain ⟨F, bk, lm, gr, nx⟩ := HT.out.one (w4.alloc (.cells #[.int .u8 97, .int .u8 98, .int .u8 99] 5 (3, 4))) ((Below.refl _ _).alloc (Nat.le_refl _) _)
  have hc := hash_any4 _ w.heap.size sb1 _ F bk gr HT.out.belowW.2.2 (by simp) (some ⟨w4.heap.size, 0, none⟩) w4.heap.size 0 3 tA (view_const w4 tA (by decide) (by decide) _ rfl _) (by decide) (by decide) (fun _ q => by have := (lm _ q).2; omega)
  have NX : Hid (∀ w' st1', Turned (w4.alloc (.cells #[.int .u8 97, .int .u8 98, .int .u8 99] 5 (3, 4))) w' w.heap.size sb1 st1' F → Two4 w w' sb1 st1' sb2 ⟨12, 8, gd S, [], [], []⟩ []) := nx
  clear nx lm gr bk
  go_wp2_with fail
  refine hc.mono ?_
  rintro _ w5 ⟨rfl, tn⟩
  have HT5 : Hid (Two4 w w5 sb1 ⟨256, 256, gd S, [tA], [], []⟩ sb2 ⟨12, 8, gd S, [], [], []⟩ []) := NX.out _ _ tn
  have hk1 := kh_isH 256 tA
  have KA : Hid (gd (kh 256 tA) 0 = 186 ∧ gd (kh 256 tA) 1 = 120 ∧ gd (kh 256 tA) 2 = 22 ∧ gd (kh 256 tA) 3 = 191) := ⟨khA 256 0 _ (by decide) (by kernel_rfl), khA 256 1 _ (by decide) (by kernel_rfl), khA 256 2 _ (by decide) (by kernel_rfl), khA 256 3 _ (by decide) (by kernel_rfl)⟩
  obtain ⟨k1, hk1e⟩ : ∃ k, k = kh 256 tA := ⟨_, rfl⟩
  have e1 : (⟨256, 256, gd S, [], [], []⟩ : Bst).bits = 256 := rfl
  first | rw [← hk1e] | rw [e1, ← hk1e]
  rw [← hk1e] at hk1 KA
  clear hc tn NX HT e1 hk1e
  have HT6 : Hid (Two4 w ((w5.alloc (.cells Z32 31)).setRow w5.heap.size (hA k1)) sb1 ⟨256, 256, gd S, [tA], [], []⟩ sb2 ⟨12, 8, gd S, [], [], []⟩ [(w5.heap.size, hA k1)]) := HT5.out.box _
  clear HT5
  go_wp2_with (refine wpList_store_row (by rfl) 31 (.tmp 5) (.tmp 37) (by rfl) w5.heap.size (hA k1) (by rfl) (by rfl) 31 Z32 (heap_alloc_new _ _) (hA_info hk1) (hA_Z32 hk1) (hA_one hk1) ?_; change wpList _ _ _ _ _ ((w5.alloc (.cells Z32 31)).setRow w5.heap.size (hA k1)); revert HT6; generalize (w5.alloc (.cells Z32 31)).setRow w5.heap.size (hA k1) = w5s; intro HT6)
  -- c.Hash
  obtain ⟨F, bk, lm, gr, nx⟩ := HT6.out.two (w5s.alloc (.cells #[.int .u8 97, .int .u8 98, .int .u8 99] 5 (3, 4))) ((Below.refl _ _).alloc (Nat.le_refl _) _)
  refine (hash_any4 _ w.heap.size sb2 _ F bk gr HT6.out.belowW.2.2 (by simp) (some ⟨w5s.heap.size, 0, none⟩) w5s.heap.size 0 3 tA (view_const w5s tA (by decide) (by decide) _ rfl _) (by decide) (by decide) (fun _ q => by have := (lm _ q).2; omega)).mono ?_
  rintro _ w7 ⟨rfl, tn⟩
  have HT7 : Hid (Two4 w w7 sb1 ⟨256, 256, gd S, [tA], [], []⟩ sb2 ⟨12, 8, gd S, [tA], [], []⟩ [(w5.heap.size, hA k1)]) := nx _ _ tn
  have hk2 := kh_isH 12 tA
  have KB : Hid (gd (kh 12 tA) 0 = 186 ∧ gd (kh 12 tA) 1 = 112 ∧ gd (kh 12 tA) 2 = 0) := ⟨khA 12 0 _ (by decide) (by kernel_rfl), khA 12 1 _ (by decide) (by kernel_rfl), khA 12 2 _ (by decide) (by kernel_rfl)⟩
  obtain ⟨k2, hk2e⟩ : ∃ k, k = kh 12 tA := ⟨_, rfl⟩
  have e2 : (⟨12, 8, gd S, [], [], []⟩ : Bst).bits = 12 := rfl
  first | rw [← hk2e] | rw [e2, ← hk2e]
  rw [← hk2e] at hk2 KB
  clear tn nx lm gr bk HT6 e2 hk2e
  have HT8 : Hid (Two4 w ((w7.alloc (.cells Z32 31)).setRow w7.heap.size (hA k2)) sb1 ⟨256, 256, gd S, [tA], [], []⟩ sb2 ⟨12, 8, gd S, [tA], [], []⟩ [(w7.heap.size, hA k2), (w5.heap.size, hA k1)]) := HT7.out.box _
  clear HT7
  go_wp2_with (refine wpList_store_row (by rfl) 31 (.tmp 6) (.tmp 41) (by rfl) w7.heap.size (hA k2) (by rfl) (by rfl) 31 Z32 (heap_alloc_new _ _) (hA_info hk2) (hA_Z32 hk2) (hA_one hk2) ?_; change wpList _ _ _ _ _ ((w7.alloc (.cells Z32 31)).setRow w7.heap.size (hA k2)); revert HT8; generalize (w7.alloc (.cells Z32 31)).setRow w7.heap.size (hA k2) = w7s; intro HT8)
  -- c.Code
  obtain ⟨F, bk, lm, gr, nx⟩ := HT8.out.two (w7s.alloc (.cells #[.int .u8 120] 5 (1, 2))) ((Below.refl _ _).alloc (Nat.le_refl _) _)
  refine (code_any4 _ w.heap.size sb2 _ F bk gr HT8.out.belowW.2.2 (by simp) (some ⟨w7s.heap.size, 0, none⟩) w7s.heap.size 0 1 tX (view_const w7s tX (by decide) (by decide) _ rfl _) (by decide) (by decide) (fun _ q => by have := (lm _ q).2; omega)).mono ?_
  rintro _ w9 ⟨rfl, tn⟩
  have HT9 : Hid (Two4 w w9 sb1 ⟨256, 256, gd S, [tA], [], []⟩ sb2 ⟨12, 8, gd S, [tA], [tX], []⟩ [(w7.heap.size, hA k2), (w5.heap.size, hA k1)]) := nx _ _ tn
  have hk3 := kc_isH 8 (gd S) tX
  obtain ⟨k3, hk3e⟩ : ∃ k, k = kc 8 (gd S) tX := ⟨_, rfl⟩
  have HK3 : Hid (k3 = kc 8 (gd S) tX) := hk3e
  have e3 : kc (⟨12, 8, gd S, [tA], [], []⟩ : Bst).cbits (⟨12, 8, gd S, [tA], [], []⟩ : Bst).S tX = k3 := hk3e.symm
  first | rw [← hk3e] | rw [e3]
  rw [← hk3e] at hk3
  clear tn nx lm gr bk HT8 e3 hk3e
  have HT10 : Hid (Two4 w ((w9.alloc (.cells Z32 31)).setRow w9.heap.size (hA k3)) sb1 ⟨256, 256, gd S, [tA], [], []⟩ sb2 ⟨12, 8, gd S, [tA], [tX], []⟩ [(w9.heap.size, hA k3), (w7.heap.size, hA k2), (w5.heap.size, hA k1)]) := HT9.out.box _
  clear HT9
  go_wp2_with (refine wpList_store_row (by rfl) 31 (.tmp 7) (.tmp 45) (by rfl) w9.heap.size (hA k3) (by rfl) (by rfl) 31 Z32 (heap_alloc_new _ _) (hA_info hk3) (hA_Z32 hk3) (hA_one hk3) ?_; change wpList _ _ _ _ _ ((w9.alloc (.cells Z32 31)).setRow w9.heap.size (hA k3)); revert HT10; generalize (w9.alloc (.cells Z32 31)).setRow w9.heap.size (hA k3) = w9s; intro HT10)
  -- c.Len
  obtain ⟨F, bk, lm, gr, nx⟩ := HT10.out.two w9s (Below.refl _ _)
  refine (len_any4 _ w.heap.size sb2 _ F bk).mono ?_
  rintro _ w11 ⟨rfl, tn⟩
  have HT11 : Hid (Two4 w w11 sb1 ⟨256, 256, gd S, [tA], [], []⟩ sb2 ⟨12, 8, gd S, [tA], [tX], []⟩ [(w9.heap.size, hA k3), (w7.heap.size, hA k2), (w5.heap.size, hA k1)]) := nx _ _ tn
  clear tn nx lm gr bk HT10
  have c0 := cell_hA hk1 (HT11.out.cells (g := w5.heap.size) (by simp)) (i := 0) (by decide) KA.out.1
  have c1 := cell_hA hk1 (HT11.out.cells (g := w5.heap.size) (by simp)) (i := 1) (by decide) KA.out.2.1
  have c2 := cell_hA hk1 (HT11.out.cells (g := w5.heap.size) (by simp)) (i := 2) (by decide) KA.out.2.2.1
  have c3 := cell_hA hk1 (HT11.out.cells (g := w5.heap.size) (by simp)) (i := 3) (by decide) KA.out.2.2.2
  have d0 := cell_hA hk2 (HT11.out.cells (g := w7.heap.size) (by simp)) (i := 0) (by decide) KB.out.1
  have d1 := cell_hA hk2 (HT11.out.cells (g := w7.heap.size) (by simp)) (i := 1) (by decide) KB.out.2.1
  have d2 := cell_hA hk2 (HT11.out.cells (g := w7.heap.size) (by simp)) (i := 2) (by decide) KB.out.2.2
  go_wp2_with fail
  clear c0 c1 c2 c3 d0 d1 d2
  -- b.Sound
  obtain ⟨F, bk, lm, gr, nx⟩ := HT11.out.one w11 (Below.refl _ _)
  have sd := sound_any _ w.heap.size sb1 _ F bk
  have v1 : (decide (Lone (kh 256) [tA]) && decide (Lone (kc 256 (gd S)) []) && decide (([] : List (List Nat)).length = 0)) = true := by rw [decide_eq_true (lone_one _ _), decide_eq_true (lone_nil _)]; rfl
  rw [v1] at sd
  refine sd.mono ?_
  rintro _ w12 ⟨rfl, tn⟩
  have HT12 : Hid (Two4 w w12 sb1 ⟨256, 256, gd S, [tA], [], []⟩ sb2 ⟨12, 8, gd S, [tA], [tX], []⟩ [(w9.heap.size, hA k3), (w7.heap.size, hA k2), (w5.heap.size, hA k1)]) := nx _ _ tn
  clear tn nx lm gr bk HT11 sd v1
  go_wp2_with fail
  obtain ⟨F, bk, lm, gr, nx⟩ := HT12.out.two w12 (Below.refl _ _)
  have sd := sound_any _ w.heap.size sb2 _ F bk
  have v1 : (decide (Lone (kh 12) [tA]) && decide (Lone (kc 8 (gd S)) [tX]) && decide (([] : List (List Nat)).length = 0)) = true := by rw [decide_eq_true (lone_one _ _), decide_eq_true (lone_one _ _)]; rfl
  rw [v1] at sd
  refine sd.mono ?_
  rintro _ w13 ⟨rfl, tn⟩
  have HT13 : Hid (Two4 w w13 sb1 ⟨256, 256, gd S, [tA], [], []⟩ sb2 ⟨12, 8, gd S, [tA], [tX], []⟩ [(w9.heap.size, hA k3), (w7.heap.size, hA k2), (w5.heap.size, hA k1)]) := nx _ _ tn
  clear tn nx lm gr bk HT12 sd v1
  have hcl : ∀ j, j < (hA k3).size → (w13.alloc (.cells #[.int .u8 120] 5 (1, 2))).cell? ⟨w9.heap.size, j, none⟩ = (hA k3)[j]? := fun j _ => cell_of_row _ _ _ _ 31 _ ((HT13.out.step ((Below.refl _ _).alloc (Nat.le_refl _) _)).cells (by simp))
  have hi3 := hA_info hk3
  go_wp2_with (refine wpList_load_cells_g (by rfl) 31 (.tmp 7) (by rfl) w9.heap.size (by rfl) (hA k3) _ hcl Tryz.underlying31 (by rfl) hi3 ?_)
  obtain ⟨F, bk, lm, gr, nx⟩ := HT13.out.two (w13.alloc (.cells #[.int .u8 120] 5 (1, 2))) ((Below.refl _ _).alloc (Nat.le_refl _) _)
  refine (accept_own _ w.heap.size sb2 _ F bk gr HT13.out.belowW.2.2 (by simp) (some ⟨w13.heap.size, 0, none⟩) w13.heap.size 0 1 tX (view_const w13 tX (by decide) (by decide) _ rfl _) (by decide) (fun _ q => by have := (lm _ q).2; omega) k3 hk3 HK3.out (by simp)).mono ?_
  rintro _ w14 ⟨rfl, tn⟩
  have HT14 : Hid (Below w.heap.size w w14) := (nx _ _ tn).belowW.1
  clear tn nx lm gr bk HT13 hcl
  go_wp2_with fail
  go_ret
  exact ⟨rfl, HT14.out⟩
end Go.Proofs.YtlhllbggnpcoaaaGreatDoor
