/-
  cairnref09.Wrap.
-/
import Derived.Test.YtnknhjabebcmeaaFi
import Derived.Deep.RegionHeld3
namespace Go.Proofs.Ytnknhjabebcmeaa
open Go.RowKit

theorem u8_same (x : Int) (h0 : 0 ≤ x) (h1 : x ≤ 255) : IntKind.u8.wrap x = x := by simp [IntKind.wrap, IntKind.bits, IntKind.signed]; omega
set_option maxRecDepth 100000 in
set_option maxHeartbeats 1600000 in
theorem rwrap_any (w : World) (a : Option Addr) (b off c : Nat) (s : List Nat) (hv : Vw w a b off s) (hnil : a = none → c = 0) (hl : s.length ≤ 140737488351232) :
    Calls Try.prog 13 #[.slice a s.length c] w fun e w' => ∃ v, e = .returned (.tuple #[v, .int .i64 ((wrE s : Nat) : Int)]) ∧ Ans w w' v (wrR s) := by
  have HV : Hid (Vw w a b off s) := hv
  have HS : Hid (∀ x ∈ s, x < 256) := (vw_ok hv).2
  clear hv
  obtain ⟨n, en⟩ : ∃ n, n = s.length := ⟨_, rfl⟩
  have HN : Hid (n = s.length) := en
  rw [← en] at hl ⊢
  clear en
  by_cases h1 : 16384 < n
  · have i1 : (16384 : Int) < (n : Int) := by omega
    have HR : Hid (wrE s = 2 ∧ wrR s = []) := ⟨by unfold wrE; rw [if_neg (by rw [← HN.out]; omega)], by unfold wrR; rw [if_neg (by rw [← HN.out]; omega)]⟩
    go_enter Try.func13, Try.ntmps13
    go_wp2_with fail
    go_ret2
    exact ⟨_, by rw [HR.out.1]; rfl, by rw [HR.out.2]; exact ans_nil (Below.refl _ _)⟩
  · have i1 : ¬ (16384 : Int) < (n : Int) := by omega
    have HR : Hid (wrE s = 0 ∧ wrR s = hd7 n ++ s) := ⟨by unfold wrE; rw [if_pos (by rw [← HN.out]; omega)], by unfold wrR; rw [if_pos (by rw [← HN.out]; omega)]; unfold frm; rw [HN.out]⟩
    obtain ⟨x1, hx1⟩ : ∃ x1 : Nat, x1 = n / 65536 := ⟨_, rfl⟩
    obtain ⟨x2, hx2⟩ : ∃ x2 : Nat, x2 = n / 256 % 256 := ⟨_, rfl⟩
    obtain ⟨x3, hx3⟩ : ∃ x3 : Nat, x3 = n % 256 := ⟨_, rfl⟩
    have HX : Hid (hd7 n = [202, x1, x2, x3, 255 - x1, 255 - x2, 255 - x3]) := by rw [hx1, hx2, hx3]; rfl
    have b1 : x1 ≤ 255 := by omega
    have b2 : x2 ≤ 255 := by omega
    have b3 : x3 ≤ 255 := by omega
    have e1 : (n : Int) / 65536 = (x1 : Int) := by omega
    have e2 : (n : Int) / 256 % 256 = (x2 : Int) := by omega
    have e3 : (n : Int) % 256 = (x3 : Int) := by omega
    have u1 := u8_same (255 - (x1 : Int)) (by omega) (by omega)
    have u2 := u8_same (255 - (x2 : Int)) (by omega) (by omega)
    have u3 := u8_same (255 - (x3 : Int)) (by omega) (by omega)
    have HU : Hid (255 - (x1 : Int) = ((255 - x1 : Nat) : Int) ∧ 255 - (x2 : Int) = ((255 - x2 : Nat) : Int) ∧ 255 - (x3 : Int) = ((255 - x3 : Nat) : Int)) := ⟨by omega, by omega, by omega⟩
    clear hx1 hx2 hx3
    go_enter Try.func13, Try.ntmps13
    go_wp2_with fail
    have d1 : (w.alloc (.cells #[.int .u8 x1, .int .u8 x2, .int .u8 x3] 5)).cell? ⟨w.heap.size, 0, none⟩ = some (.int .u8 x1) := cell_of_row _ _ _ _ 5 (0, 0) (heap_alloc_new w _)
    have d2 : (w.alloc (.cells #[.int .u8 x1, .int .u8 x2, .int .u8 x3] 5)).cell? ⟨w.heap.size, 1, none⟩ = some (.int .u8 x2) := cell_of_row _ _ _ _ 5 (0, 0) (heap_alloc_new w _)
    have d3 : (w.alloc (.cells #[.int .u8 x1, .int .u8 x2, .int .u8 x3] 5)).cell? ⟨w.heap.size, 2, none⟩ = some (.int .u8 x3) := cell_of_row _ _ _ _ 5 (0, 0) (heap_alloc_new w _)
    go_region_held3 (fun w' => w'.cell? ⟨w.heap.size, 0, none⟩ = some (.int .u8 x1) ∧ w'.cell? ⟨w.heap.size, 1, none⟩ = some (.int .u8 x2) ∧ w'.cell? ⟨w.heap.size, 2, none⟩ = some (.int .u8 x3)) (go_keep) (fail)
    obtain ⟨W, hW⟩ : ∃ W, W = ((w.alloc (.cells #[.int .u8 x1, .int .u8 x2, .int .u8 x3] 5)).alloc (.cells #[.int .u8 202, .int .u8 x1, .int .u8 x2, .int .u8 x3, .int .u8 (255 - (x1 : Int)), .int .u8 (255 - (x2 : Int)), .int .u8 (255 - (x3 : Int))] 5)).drew := ⟨_, rfl⟩
    have HB : Hid (Below w.heap.size w W) := by
      rw [hW]
      exact (((Below.refl w.heap.size w).alloc (Nat.le_refl _) _).alloc (by simp) _).drew
    have HO : Hid (W.ownsRow w.heap.size 5 1 (.slice (some ⟨w.heap.size + 1, 0, none⟩) 7 7) 7 (bv (hd7 n))) := by
      have h := World.ownsRow_lit (base := w.heap.size) (e := 5) (size := 1) (w.alloc (.cells #[.int .u8 x1, .int .u8 x2, .int .u8 x3] 5)) #[.int .u8 202, .int .u8 x1, .int .u8 x2, .int .u8 x3, .int .u8 (255 - (x1 : Int)), .int .u8 (255 - (x2 : Int)), .int .u8 (255 - (x3 : Int))] 7 (by simp) (by decide) rfl
      rw [World.size_alloc] at h
      have e : bv (hd7 n) = [.int .u8 202, .int .u8 x1, .int .u8 x2, .int .u8 x3, .int .u8 (255 - (x1 : Int)), .int .u8 (255 - (x2 : Int)), .int .u8 (255 - (x3 : Int))] := by
        rw [HX.out, HU.out.1, HU.out.2.1, HU.out.2.2]
        rfl
      rw [hW, e]
      exact h.drew
    have HV1 : Hid (View W a b off n (fun i => ((gd s i : Nat) : Int))) := by
      have := HV.out.below HB.out
      rw [← HN.out] at this
      exact this
    rw [← hW]
    clear hW d1 d2 d3 u1 u2 u3 e1 e2 e3
    go_wp2_with (at_builtin; (refine wpList_append_bytes (by rfl) (.tmp 44) (.tmp 45) (by rfl) w.heap.size _ 7 _ (by rfl) HO.out a b off n c _ (by rfl) HV1.out hnil (by omega) HB.out.size ?_))
    intro v3 w3 own3 gr3 nn3
    have b3 : Below w.heap.size w w3 := HB.out.trans (grown_below gr3 HO.out (Nat.le_refl _) HB.out.size)
    have H3 : Hid (Ans w w3 v3 (hd7 n ++ s)) := by
      refine ⟨?_, fun x hx => ?_, by rw [List.length_append, hd7_len, ← HN.out]; omega, b3⟩
      · have e : (hd7 n ++ s).length = 7 + n := by rw [List.length_append, hd7_len, HN.out]
        rw [e, bv_app, ← vals_bv s, ← HN.out]
        exact own3
      · rcases List.mem_append.1 hx with q | q
        · exact hd7_bytes (by omega) x q
        · exact HS.out x q
    obtain ⟨a3, c3, e3⟩ := own_slice own3
    subst e3
    clear own3 gr3 nn3 b3
    go_wp2_with fail
    go_ret2
    exact ⟨_, by rw [HR.out.1]; rfl, by rw [HR.out.2]; exact H3.out⟩
end Go.Proofs.Ytnknhjabebcmeaa
