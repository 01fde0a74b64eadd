/-
  Pack, Unpack, Same of lists wherever they lie.
-/
import Derived.Test.YtdjbideobdaamaaPck
import Derived.Test.YtdjbideobdaamaaUpk
namespace Go.Proofs.Ytdjbideobdaamaa
open Go.RowKit

theorem vw_row {w : World} {g : Nat} {s : List Nat} {fr : Nat × Nat} (h : w.heap[g]? = some (.cells (bv s).toArray 5 fr)) (hs : ∀ x ∈ s, x < 256) (hl : s.length ≤ 1048576) : Vw w (some ⟨g, 0, none⟩) g 0 s :=
  ⟨fun _ => rfl, fun i hi => by
    rw [Nat.zero_add, cell_of_row _ _ _ _ 5 _ h]
    simpa using bv_at hi, fun i _ => by have := gd_lt hs i; omega, by omega⟩
theorem vb_row {w : World} {g : Nat} {s : List Nat} {fr : Nat × Nat} (h : w.heap[g]? = some (.cells (bv s).toArray 5 fr)) (hs : ∀ x ∈ s, x < 256) (hl : s.length ≤ 1048576) : Vb w (.slice (some ⟨g, 0, none⟩) s.length s.length) s :=
  ⟨_, _, _, _, rfl, vw_row h hs hl, Nat.le_refl _, (fun h => by cases h), by omega⟩
theorem pack_vb {w : World} {v : Value} {s : List Nat} (leaf : Bool) (h : Vb w v s) :
    Calls Try.prog 6 #[v, .bool leaf] w fun e w' => ∃ u, e = .returned (.tuple #[u, .int .i64 ((pkE s : Nat) : Int)]) ∧ Ans w w' u (pkR leaf s) := by
  obtain ⟨a, b, off, c, rfl, hv, hc, _⟩ := h
  exact pack_any w a b off c s leaf hv hc
theorem unpack_vb {w : World} {v : Value} {s : List Nat} (h : Vb w v s) :
    Calls Try.prog 9 #[v] w fun e w' => ∃ u, e = .returned (.tuple #[u, .bool (upI s), .int .i64 ((upE s : Nat) : Int)]) ∧ Ans w w' u (upR s) := by
  obtain ⟨a, b, off, c, rfl, hv, hc, _⟩ := h
  exact unpack_any w a b off c s hv hc
theorem same_vb {w : World} {v u : Value} {s t : List Nat} (h : Vb w v s) (h' : Vb w u t) :
    Calls Try.prog 7 #[v, u] w fun e w' => e = .returned (.bool (decide (s = t))) ∧ Below w.heap.size w w' := by
  obtain ⟨a, b, off, c, rfl, hv, hc, _⟩ := h
  obtain ⟨a', b', off', c', rfl, hv', hc', _⟩ := h'
  refine (rsame_any w a a' b off c b' off' c' s t hv hv').mono ?_
  rintro e w' ⟨rfl, q, rfl⟩
  exact ⟨rfl, below_drewN (Below.refl _ _) q⟩
/-- two that are the same -/
theorem same_yes {w : World} {v u : Value} {s t : List Nat} (h : Vb w v s) (h' : Vb w u t) (e : s = t) :
    Calls Try.prog 7 #[v, u] w fun e w' => e = .returned (.bool true) ∧ Below w.heap.size w w' := by
  have := same_vb h h'
  rw [decide_eq_true e] at this
  exact this

theorem k1 : pkR true [1, 2, 3, 4] = [32, 18, 52] ∧ pkE [1, 2, 3, 4] = 0 := by decide +kernel
theorem k2 : upR [17, 35] = [1, 2, 3] ∧ upE [17, 35] = 0 ∧ upI [17, 35] = false := by decide +kernel
theorem fix1 (w : World) : Calls Try.prog 6 #[.slice (some ⟨w.heap.size, 0, none⟩) 4 4, .bool true] (w.alloc (.cells #[.int .u8 1, .int .u8 2, .int .u8 3, .int .u8 4] 5)) fun e w' => ∃ u, e = .returned (.tuple #[u, .int .i64 0]) ∧ Vb w' u [32, 18, 52] ∧ Below w.heap.size w w' := by
  have h : Vb (w.alloc (.cells #[.int .u8 1, .int .u8 2, .int .u8 3, .int .u8 4] 5)) (.slice (some ⟨w.heap.size, 0, none⟩) 4 4) [1, 2, 3, 4] := vb_row (s := [1, 2, 3, 4]) (heap_alloc_new w _) (by decide) (by decide)
  refine (pack_vb true h).mono ?_
  rintro e w' ⟨u, rfl, ha⟩
  rw [k1.1] at ha
  exact ⟨u, by rw [k1.2]; rfl, ha.vb, ((Below.refl _ _).alloc (Nat.le_refl _) _).trans (ha.below.mono (by simp))⟩
theorem fix2 (w : World) : Calls Try.prog 9 #[.slice (some ⟨w.heap.size, 0, none⟩) 2 2] (w.alloc (.cells #[.int .u8 17, .int .u8 35] 5)) fun e w' => ∃ u, e = .returned (.tuple #[u, .bool false, .int .i64 0]) ∧ Vb w' u [1, 2, 3] ∧ Below w.heap.size w w' := by
  have h : Vb (w.alloc (.cells #[.int .u8 17, .int .u8 35] 5)) (.slice (some ⟨w.heap.size, 0, none⟩) 2 2) [17, 35] := vb_row (s := [17, 35]) (heap_alloc_new w _) (by decide) (by decide)
  refine (unpack_vb h).mono ?_
  rintro e w' ⟨u, rfl, ha⟩
  rw [k2.1] at ha
  exact ⟨u, by rw [k2.2.1, k2.2.2]; rfl, ha.vb, ((Below.refl _ _).alloc (Nat.le_refl _) _).trans (ha.below.mono (by simp))⟩
theorem fix3 (w : World) (u : Value) (h : Vb w u [32, 18, 52]) : Calls Try.prog 7 #[u, .slice (some ⟨w.heap.size, 0, none⟩) 3 3] (w.alloc (.cells #[.int .u8 32, .int .u8 18, .int .u8 52] 5)) fun e w' => e = .returned (.bool true) ∧ Below w.heap.size w w' := by
  have k : Below w.heap.size w (w.alloc (.cells #[.int .u8 32, .int .u8 18, .int .u8 52] 5)) := (Below.refl _ _).alloc (Nat.le_refl _) _
  refine (same_yes (h.keep k) (vb_row (s := [32, 18, 52]) (heap_alloc_new w _) (by decide) (by decide)) rfl).mono ?_
  rintro e w' ⟨rfl, hb⟩
  exact ⟨rfl, k.trans (hb.mono (by simp))⟩
theorem fix4 (w : World) (u : Value) (h : Vb w u [1, 2, 3]) : Calls Try.prog 7 #[u, .slice (some ⟨w.heap.size, 0, none⟩) 3 3] (w.alloc (.cells #[.int .u8 1, .int .u8 2, .int .u8 3] 5)) fun e w' => e = .returned (.bool true) ∧ Below w.heap.size w w' := by
  have k : Below w.heap.size w (w.alloc (.cells #[.int .u8 1, .int .u8 2, .int .u8 3] 5)) := (Below.refl _ _).alloc (Nat.le_refl _) _
  refine (same_yes (h.keep k) (vb_row (s := [1, 2, 3]) (heap_alloc_new w _) (by decide) (by decide)) rfl).mono ?_
  rintro e w' ⟨rfl, hb⟩
  exact ⟨rfl, k.trans (hb.mono (by simp))⟩

set_option maxRecDepth 100000 in
set_option maxHeartbeats 800000 in
theorem fixed_any (w : World) : Calls Try.prog 8 #[] w fun e w' => e = .returned (.bool true) ∧ Below w.heap.size w w' := by
  go_enter Try.func8, Try.ntmps8
  go_wp2_with fail
  refine (fix1 w).mono ?_
  rintro e w1 ⟨u, rfl, hu, b1⟩
  have HU : Hid (Vb w1 u [32, 18, 52] ∧ Below w.heap.size w w1) := ⟨hu, b1⟩
  clear hu b1
  go_wp2_with fail
  refine (fix2 w1).mono ?_
  rintro e w2 ⟨v, rfl, hv, b2⟩
  have HV : Hid (Vb w2 v [1, 2, 3] ∧ Vb w2 u [32, 18, 52] ∧ Below w.heap.size w w2) := ⟨hv, HU.out.1.keep b2, ch HU.out.2 b2⟩
  clear hv b2 HU
  go_wp2_with fail
  refine (fix3 w2 u HV.out.2.1).mono ?_
  rintro e w3 ⟨rfl, b3⟩
  have HW : Hid (Vb w3 v [1, 2, 3] ∧ Below w.heap.size w w3) := ⟨HV.out.1.keep b3, ch HV.out.2.2 b3⟩
  clear b3 HV
  go_wp2_with fail
  refine (fix4 w3 v HW.out.1).mono ?_
  rintro e w4 ⟨rfl, b4⟩
  have HX : Hid (Below w.heap.size w w4) := ch HW.out.2 b4
  clear b4 HW
  go_wp2_with fail
  go_ret
  exact ⟨rfl, HX.out⟩
end Go.Proofs.Ytdjbideobdaamaa
