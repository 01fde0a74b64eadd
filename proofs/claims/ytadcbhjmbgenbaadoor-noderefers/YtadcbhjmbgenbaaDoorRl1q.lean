import Derived.Test.YtadcbhjmbgenbaaDoorRprq
import Derived.Test.YtadcbhjmbgenbaaDoorRmkq
import Derived.Test.YtadcbhjmbgenbaaDoorRestq
/-
  cairnlaw07: bitsOf, secret, num.
-/
namespace Go.Proofs.YtadcbhjmbgenbaaDoor
open Go.RowKit Go.Sort Go.Maps Go.MuLone

def nbo (k : Int) : Nat := 8 + (k % 249).toNat
theorem nbo_le (k : Int) : 8 ≤ nbo k ∧ nbo k ≤ 256 := by
  unfold nbo
  have := Int.emod_nonneg k (show (249 : Int) ≠ 0 by decide)
  have := Int.emod_lt_of_pos k (show (0 : Int) < 249 by decide)
  omega
theorem bitsOf_any (w : World) (k : Int) : Calls Tryd.prog 4 #[.int .i64 k] w fun e w' => e = .returned (.int .i64 ((nbo k : Nat) : Int)) ∧ w' = w := by
  have r := rest_eq k 249 (by omega)
  have rb1 : -(249 : Int) < k.tmod 249 := Int.lt_tmod_of_pos k (by omega)
  have rb2 : k.tmod 249 < 249 := Int.tmod_lt_of_pos k (by omega)
  have p1 := Int.emod_nonneg k (show (249 : Int) ≠ 0 by decide)
  have p2 := Int.emod_lt_of_pos k (show (0 : Int) < 249 by decide)
  have HV : Hid (((nbo k : Nat) : Int) = 8 + k % 249) := by show _ = _; unfold nbo; omega
  obtain ⟨x, ex⟩ : ∃ x, x = k % 249 := ⟨_, rfl⟩
  rw [← ex] at r p1 p2 HV
  obtain ⟨y, ey⟩ : ∃ y, y = k.tmod 249 := ⟨_, rfl⟩
  have ey2 := ey.symm
  rw [ey2] at r rb1 rb2
  clear ex ey
  go_enter Tryd.func4, Tryd.ntmps4
  go_wp2_with fail
  go_ret
  exact ⟨by rw [HV.out]; rfl, rfl⟩
theorem rnum_any (w : World) (e : Int) : Calls Tryd.prog 7 #[.int .i64 e] w fun r w' => r = .returned (.int .i64 e) ∧ w' = w := by
  go_enter Tryd.func7, Tryd.ntmps7
  go_wp2_with fail
  go_ret
  exact ⟨rfl, rfl⟩
set_option maxRecDepth 100000 in
set_option maxHeartbeats 1600000 in
theorem secr_any (w : World) : Calls Tryd.prog 6 #[] w fun e w' => e = .returned (.slice (some ⟨w.heap.size, 0, none⟩) 32 32) ∧ Vw w' (some ⟨w.heap.size, 0, none⟩) w.heap.size 0 z32 ∧ Below w.heap.size w w' := by
  have hmk := run_make_row' (P := Tryd.prog) 22 5 (.int .u8 0) 1 Tryd.underlying22 Tryd.info5 rfl .i64 .i64 32 (by omega) (by omega)
  rw [show ((32 : Nat) : Int) = (32 : Int) from rfl] at hmk
  have em : madeCells #[.int .u8 0] 32 = (bv z32).toArray := by kernel_rfl
  rw [em] at hmk
  have HB : Hid (Below w.heap.size w (w.alloc (.cells (bv z32).toArray 5)) ∧ Vw (w.alloc (.cells (bv z32).toArray 5)) (some ⟨w.heap.size, 0, none⟩) w.heap.size 0 z32) := by
    refine ⟨below_new _ _, fun _ => rfl, fun i hi => ?_, fun i hi => ?_, by simp [z32]⟩
    · rw [cell_of_row _ _ _ _ 5 _ (heap_alloc_new w _), Nat.zero_add]
      have := bv_at hi
      simpa using this
    · have := gd_lt z32_isH.2 i
      omega
  obtain ⟨zz, ez⟩ : ∃ z, z = (bv z32).toArray := ⟨_, rfl⟩
  rw [← ez] at hmk HB
  clear em ez
  go_enter Tryd.func6, Tryd.ntmps6
  go_wp2_with fail
  go_ret
  exact ⟨rfl, HB.out.2, HB.out.1⟩
/-- the copy's row -/
theorem Ry.row {P : Nat → Prop} {w : World} {v : Value} {s : List Nat} (h : Ry P w v s) : ∃ g cap N f, v = .slice (some ⟨g, 0, none⟩) s.length cap ∧ P g ∧ g < w.heap.size ∧ w.rowIs g 5 N f ∧ s.length ≤ N ∧ (∀ i, i < s.length → f i = .int .u8 (gd s i : Nat)) ∧ s.length ≤ 140737488351232 ∧ ∀ x ∈ s, x < 256 := by
  have hvf := h.vf
  have hsb : ∀ x ∈ s, x < 256 := by
    obtain ⟨_, _, _, _, _, q, _⟩ := hvf
    exact (vw_ok q).2
  obtain ⟨g, cap, h1, h2, h3, h4, h5, cur, h6⟩ := h
  have hc : ∀ i, i < s.length + 4 → cur[i]? = some (.int .u8 ((cat4 s i : Nat) : Int)) := fun i hi => by
    have := h2.cell i hi
    rw [cell_of_row _ _ _ _ _ _ h6, Nat.zero_add] at this
    exact this
  have hsz : s.length ≤ cur.size := by
    have := hc (s.length) (by omega)
    have := (Array.getElem?_eq_some_iff.1 this).1
    omega
  refine ⟨g, cap, cur.size, fun i => cur.getD i (.int .u8 0), h1, h5, h2.lt (by omega), ⟨cur, h6, rfl, fun i hi => ?_⟩, hsz, fun i hi => ?_, h4, hsb⟩
  · show cur[i]? = some (cur.getD i (.int .u8 0))
    rw [Array.getD_eq_getD_getElem?, Array.getElem?_eq_getElem hi]
    rfl
  · show cur.getD i (.int .u8 0) = _
    rw [Array.getD_eq_getD_getElem?, hc i (by omega)]
    show Value.int .u8 ((cat4 s i : Nat) : Int) = _
    unfold cat4
    rw [if_pos hi]
end Go.Proofs.YtadcbhjmbgenbaaDoor
