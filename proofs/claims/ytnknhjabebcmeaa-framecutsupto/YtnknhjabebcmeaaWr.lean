/-
  frame.Wrap.
-/
import Derived.Test.YtnknhjabebcmeaaFi
namespace Go.Proofs.Ytnknhjabebcmeaa
open Go.RowKit

set_option maxRecDepth 100000 in
set_option maxHeartbeats 1600000 in
theorem wrap_any (w : World) (a : Option Addr) (b off c : Nat) (s : List Nat) (hv : Vw w a b off s) (hnil : a = none → c = 0) (hl : s.length ≤ 140737488351232) :
    Calls Try.prog 6 #[.slice a s.length c] w fun e w' => ∃ v, e = .returned (.tuple #[v, .int .i64 ((wrE s : Nat) : Int)]) ∧ Ans w w' v (wrR s) := by
  have HV : Hid (Vw w a b off s) := hv
  have HS : Hid (∀ x ∈ s, x < 256) := (vw_ok hv).2
  clear hv
  obtain ⟨n, en⟩ : ∃ n, n = s.length := ⟨_, rfl⟩
  have HN : Hid (n = s.length) := en
  rw [← en] at hl ⊢
  clear en
  by_cases h1 : 16384 < n
  · have i1 : (16384 : Int) < (n : Int) := by omega
    have HR : Hid (wrE s = 2 ∧ wrR s = []) := ⟨by unfold wrE; rw [if_neg (by rw [← HN.out]; omega)], by unfold wrR; rw [if_neg (by rw [← HN.out]; omega)]⟩
    go_enter Try.func6, Try.ntmps6
    go_wp2_with fail
    go_ret2
    exact ⟨_, by rw [HR.out.1]; rfl, by rw [HR.out.2]; exact ans_nil (Below.refl _ _)⟩
  · have i1 : ¬ (16384 : Int) < (n : Int) := by omega
    have HR : Hid (wrE s = 0 ∧ wrR s = hd7 n ++ s) := ⟨by unfold wrE; rw [if_pos (by rw [← HN.out]; omega)], by unfold wrR; rw [if_pos (by rw [← HN.out]; omega)]; unfold frm; rw [HN.out]⟩
    go_enter Try.func6, Try.ntmps6
    go_wp2_with fail
    refine (headOf_any w n (by omega)).mono ?_
    rintro e w2 ⟨rfl, hb2⟩
    obtain ⟨z1, z2, z3, z4, z5, z6, hz⟩ : ∃ z1 z2 z3 z4 z5 z6 : Nat, hd7 n = [202, z1, z2, z3, z4, z5, z6] := ⟨_, _, _, _, _, _, rfl⟩
    have HZ : Hid (hd7 n = [202, z1, z2, z3, z4, z5, z6]) := hz
    have ez : (bv (hd7 n)).toArray = #[.int .u8 202, .int .u8 z1, .int .u8 z2, .int .u8 z3, .int .u8 z4, .int .u8 z5, .int .u8 z6] := by rw [hz]; rfl
    rw [ez]
    have HB2 : Hid (Below w.heap.size w w2) := hb2
    clear hb2 hz ez
    have HH : Hid (∀ o, Vw ((w2.alloc (.cells #[.int .u8 202, .int .u8 z1, .int .u8 z2, .int .u8 z3, .int .u8 z4, .int .u8 z5, .int .u8 z6] 47)).alloc o) (some ⟨w2.heap.size, 0, none⟩) w2.heap.size 0 (hd7 n)) := fun o => by
      refine View.below (w := w2.alloc (.cells #[.int .u8 202, .int .u8 z1, .int .u8 z2, .int .u8 z3, .int .u8 z4, .int .u8 z5, .int .u8 z6] 47)) ⟨fun _ => rfl, fun i hi => ?_, fun i hi => ?_, by rw [hd7_len]; omega⟩ ((Below.refl _ _).alloc (Nat.le_refl _) _)
      · rw [Nat.zero_add, cell_of_row _ _ _ _ 47 (0, 0) (heap_alloc_new w2 _)]
        rw [hd7_len] at hi
        rw [HZ.out]
        have q : i = 0 ∨ i = 1 ∨ i = 2 ∨ i = 3 ∨ i = 4 ∨ i = 5 ∨ i = 6 := by omega
        rcases q with rfl | rfl | rfl | rfl | rfl | rfl | rfl <;> rfl
      · have := gd_lt (hd7_bytes (n := n) (by omega)) i
        omega
    have hmk : ∀ u : World, (Instr.makeSlice 23 (.int .i64 0) (.int .i64 (7 + (n : Int)))).run Try.prog u = .ok (.slice (some ⟨u.heap.size, 0, none⟩) 0 (7 + n)) (u.alloc (.cells (madeCells #[.int .u8 0] (7 + n)) 5)) := fun u => by
      obtain ⟨i0, hi0, hz0, hz1, hz2⟩ := info_parts Try.info5
      have := run_make (P := Try.prog) u 23 5 i0 _ Try.underlying23 hi0 hz0 .i64 .i64 0 (7 + (n : Int)) (by omega) (by omega) (by rw [hz2]; omega) (by omega)
      rw [this, hz1]
      have e : (7 + (n : Int)).toNat = 7 + n := by omega
      rw [e, Nat.mul_one]
      rfl
    have own0 : ((w2.alloc (.cells #[.int .u8 202, .int .u8 z1, .int .u8 z2, .int .u8 z3, .int .u8 z4, .int .u8 z5, .int .u8 z6] 47)).alloc (.cells (madeCells #[.int .u8 0] (7 + n)) 5)).ownsRow (w2.heap.size + 1) 5 1 (.slice (some ⟨w2.heap.size + 1, 0, none⟩) 0 (7 + n)) 0 [] := by
      have := World.ownsRow_made (base := w2.heap.size + 1) (e := 5) (size := 1) (w2.alloc (.cells #[.int .u8 202, .int .u8 z1, .int .u8 z2, .int .u8 z3, .int .u8 z4, .int .u8 z5, .int .u8 z6] 47)) (madeCells #[.int .u8 0] (7 + n)) (7 + n) (by simp) (by unfold maxLen; omega) (by simp [madeCells])
      rw [World.size_alloc] at this
      exact this
    have HO : Hid (((w2.alloc (.cells #[.int .u8 202, .int .u8 z1, .int .u8 z2, .int .u8 z3, .int .u8 z4, .int .u8 z5, .int .u8 z6] 47)).alloc (.cells (madeCells #[.int .u8 0] (7 + n)) 5)).ownsRow (w2.heap.size + 1) 5 1 (.slice (some ⟨w2.heap.size + 1, 0, none⟩) 0 (7 + n)) 0 []) := own0
    clear own0
    have HH7 : Hid (View ((w2.alloc (.cells #[.int .u8 202, .int .u8 z1, .int .u8 z2, .int .u8 z3, .int .u8 z4, .int .u8 z5, .int .u8 z6] 47)).alloc (.cells (madeCells #[.int .u8 0] (7 + n)) 5)) (some ⟨w2.heap.size, 0, none⟩) w2.heap.size 0 7 (fun i => ((gd (hd7 n) i : Nat) : Int))) := HH.out _
    clear HH
    go_wp2_with (at_builtin; go_loud (refine wpList_append_bytes (by rfl) (.tmp 16) (.tmp 17) (by rfl) (w2.heap.size + 1) _ 0 [] (by rfl) HO.out (some ⟨w2.heap.size, 0, none⟩) w2.heap.size 0 7 7 _ (by rfl) HH7.out (fun h => by cases h) (by omega) (by simp) ?_))
    intro v1 w1 own1 gr1 nn1
    clear hmk
    have b1 : Below w.heap.size w w1 := ((HB2.out.alloc HB2.out.size _).alloc (by simp; have := HB2.out.size; omega) _).trans (grown_below gr1 HO.out (by have := HB2.out.size; omega) (by simp; have := HB2.out.size; omega))
    replace own1 : w1.ownsRow (w2.heap.size + 1) 5 1 v1 7 (bv (hd7 n)) := by
      rw [← vals_bv (hd7 n), hd7_len]
      simpa using own1
    have H1 : Hid (w1.ownsRow w.heap.size 5 1 v1 7 (bv (hd7 n)) ∧ Below w.heap.size w w1) := ⟨own_rebase own1 (fun g hg => by have := (own1.lt g hg).1; have := HB2.out.size; omega), b1⟩
    have HV1 : Hid (View w1 a b off n (fun i => ((gd s i : Nat) : Int))) := by
      have := HV.out.below b1
      rw [← HN.out] at this
      exact this
    obtain ⟨a1, c1, e1⟩ := own_slice own1
    subst e1
    clear gr1 nn1 b1 own1 HO HH7
    go_wp2_with (at_builtin; go_loud (refine wpList_append_bytes (by rfl) (.tmp 19) (.tmp 20) (by rfl) w.heap.size _ 7 _ (by rfl) H1.out.1 a b off n c _ (by rfl) HV1.out hnil (by omega) (by have := H1.out.2.size; omega) ?_))
    intro v3 w3 own3 gr3 nn3
    have b3 : Below w.heap.size w w3 := H1.out.2.trans (grown_below gr3 H1.out.1 (Nat.le_refl _) H1.out.2.size)
    have H3 : Hid (Ans w w3 v3 (hd7 n ++ s)) := by
      refine ⟨?_, fun x hx => ?_, by rw [List.length_append, hd7_len, ← HN.out]; omega, b3⟩
      · have e : (hd7 n ++ s).length = 7 + n := by rw [List.length_append, hd7_len, HN.out]
        rw [e, bv_app, ← vals_bv s, ← HN.out]
        exact own3
      · rcases List.mem_append.1 hx with q | q
        · exact hd7_bytes (by omega) x q
        · exact HS.out x q
    obtain ⟨a3, c3, e3⟩ := own_slice own3
    subst e3
    clear own3 gr3 nn3 b3
    go_wp2_with fail
    go_ret2
    exact ⟨_, by rw [HR.out.1]; rfl, by rw [HR.out.2]; exact H3.out⟩
end Go.Proofs.Ytnknhjabebcmeaa
