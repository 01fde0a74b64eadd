/-
  The calls of lists wherever they lie; cairnlaw09.fixed.
-/
import Derived.Test.YtnknhjabebcmeaaSl
import Derived.Test.YtnknhjabebcmeaaSc
import Derived.Test.YtnknhjabebcmeaaRs
import Derived.Test.YtnknhjabebcmeaaWr
namespace Go.Proofs.Ytnknhjabebcmeaa
open Go.RowKit

theorem wrap_vb {w : World} {v : Value} {s : List Nat} (h : Vb w v s) :
    Calls Try.prog 6 #[v] w fun e w' => ∃ u, e = .returned (.tuple #[u, .int .i64 ((wrE s : Nat) : Int)]) ∧ Ans w w' u (wrR s) := by
  obtain ⟨a, b, off, c, rfl, hv, hc, hn, hl⟩ := h
  exact wrap_any w a b off c s hv hn hl
theorem rwrap_vb {w : World} {v : Value} {s : List Nat} (h : Vb w v s) :
    Calls Try.prog 13 #[v] w fun e w' => ∃ u, e = .returned (.tuple #[u, .int .i64 ((wrE s : Nat) : Int)]) ∧ Ans w w' u (wrR s) := by
  obtain ⟨a, b, off, c, rfl, hv, hc, hn, hl⟩ := h
  exact rwrap_any w a b off c s hv hn hl
theorem first_vb {w : World} {v : Value} {s : List Nat} (h : Vb w v s) :
    Calls Try.prog 17 #[v] w fun e w' => ∃ u, e = .returned (.tuple #[u, .int .i64 ((fN s : Nat) : Int), .int .i64 ((fE s : Nat) : Int)]) ∧ AnT w w' u (fP s) := by
  obtain ⟨a, b, off, c, rfl, hv, hc, hn, hl⟩ := h
  exact first_any w a b off c s hv hc hl
theorem rfirst_vb {w : World} {v : Value} {s : List Nat} (h : Vb w v s) :
    Calls Try.prog 18 #[v] w fun e w' => ∃ u, e = .returned (.tuple #[u, .int .i64 ((fN s : Nat) : Int), .int .i64 ((fE s : Nat) : Int)]) ∧ AnT w w' u (fP s) := by
  obtain ⟨a, b, off, c, rfl, hv, hc, hn, hl⟩ := h
  exact rfirst_any w a b off c s hv hc hl
theorem scan_vb {w : World} {v : Value} {s : List Nat} (h : Vb w v s) (hl : s.length ≤ 4194304) :
    Calls Try.prog 7 #[v] w fun e w' => ∃ u ue, e = .returned (.tuple #[u, ue, .int .i64 ((scE s : Nat) : Int)]) ∧ (∃ Us, Gl w' w.heap.size u Us (scP s)) ∧ Gi w' w.heap.size ue (edF 0 (scP s)) ∧ Below w.heap.size w w' := by
  obtain ⟨a, b, off, c, rfl, hv, hc, hn, _⟩ := h
  exact scan_any w a b off c s hv hc hl
theorem rscan_vb {w : World} {v : Value} {s : List Nat} (h : Vb w v s) (hl : s.length ≤ 4194304) :
    Calls Try.prog 19 #[v] w fun e w' => ∃ u ue, e = .returned (.tuple #[u, ue, .int .i64 ((scE s : Nat) : Int)]) ∧ (∃ Us, Gl w' w.heap.size u Us (scP s)) ∧ Gi w' w.heap.size ue (edF 0 (scP s)) ∧ Below w.heap.size w w' := by
  obtain ⟨a, b, off, c, rfl, hv, hc, hn, _⟩ := h
  exact rscan_any w a b off c s hv hc hl

theorem k1 : wrR [7, 8] = [202, 0, 0, 2, 255, 255, 253, 7, 8] ∧ wrE [7, 8] = 0 := by decide +kernel
theorem k2 : fP [202, 0, 0, 2, 255, 255, 253, 7, 8, 9] = [7, 8] ∧ fN [202, 0, 0, 2, 255, 255, 253, 7, 8, 9] = 9 ∧ fE [202, 0, 0, 2, 255, 255, 253, 7, 8, 9] = 0 := by decide +kernel
theorem k3 : scP [202, 0, 0, 1, 255, 255, 254, 1, 202, 0, 0, 0, 255, 255, 255, 202] = [[1], []] ∧ scE [202, 0, 0, 1, 255, 255, 254, 1, 202, 0, 0, 0, 255, 255, 255, 202] = 91 := by decide +kernel
theorem k4 : edF 0 [[1], []] = [8, 15] := by decide +kernel
theorem fix1 (w : World) : Calls Try.prog 6 #[.slice (some ⟨w.heap.size, 0, none⟩) 2 2] (w.alloc (.cells #[.int .u8 7, .int .u8 8] 5)) fun e w' => ∃ u, e = .returned (.tuple #[u, .int .i64 0]) ∧ Vb w' u [202, 0, 0, 2, 255, 255, 253, 7, 8] ∧ Below w.heap.size w w' := by
  have h : Vb (w.alloc (.cells #[.int .u8 7, .int .u8 8] 5)) (.slice (some ⟨w.heap.size, 0, none⟩) 2 2) [7, 8] := vb_row (s := [7, 8]) (heap_alloc_new w _) (by decide) (by decide)
  refine (wrap_vb h).mono ?_
  rintro e w' ⟨u, rfl, ha⟩
  rw [k1.1] at ha
  exact ⟨u, by rw [k1.2]; rfl, ha.vb, ((Below.refl _ _).alloc (Nat.le_refl _) _).trans (ha.below.mono (by simp))⟩
theorem fix2 (w : World) : Calls Try.prog 17 #[.slice (some ⟨w.heap.size, 0, none⟩) 10 10] (w.alloc (.cells #[.int .u8 202, .int .u8 0, .int .u8 0, .int .u8 2, .int .u8 255, .int .u8 255, .int .u8 253, .int .u8 7, .int .u8 8, .int .u8 9] 5)) fun e w' => ∃ u, e = .returned (.tuple #[u, .int .i64 9, .int .i64 0]) ∧ Vb w' u [7, 8] ∧ Below w.heap.size w w' := by
  have h : Vb (w.alloc (.cells #[.int .u8 202, .int .u8 0, .int .u8 0, .int .u8 2, .int .u8 255, .int .u8 255, .int .u8 253, .int .u8 7, .int .u8 8, .int .u8 9] 5)) (.slice (some ⟨w.heap.size, 0, none⟩) 10 10) [202, 0, 0, 2, 255, 255, 253, 7, 8, 9] := vb_row (s := [202, 0, 0, 2, 255, 255, 253, 7, 8, 9]) (heap_alloc_new w _) (by decide) (by decide)
  refine (first_vb h).mono ?_
  rintro e w' ⟨u, rfl, ha⟩
  rw [k2.1] at ha
  exact ⟨u, by rw [k2.2.1, k2.2.2]; rfl, ha.vb, ((Below.refl _ _).alloc (Nat.le_refl _) _).trans (ha.below.mono (by simp))⟩
theorem fix3 (w : World) : Calls Try.prog 7 #[.slice (some ⟨w.heap.size, 0, none⟩) 16 16] (w.alloc (.cells #[.int .u8 202, .int .u8 0, .int .u8 0, .int .u8 1, .int .u8 255, .int .u8 255, .int .u8 254, .int .u8 1, .int .u8 202, .int .u8 0, .int .u8 0, .int .u8 0, .int .u8 255, .int .u8 255, .int .u8 255, .int .u8 202] 5)) fun e w' => ∃ u ue, e = .returned (.tuple #[u, ue, .int .i64 91]) ∧ Lv w' u [[1], []] ∧ Iv w' ue [8, 15] ∧ Below w.heap.size w w' := by
  have h : Vb (w.alloc (.cells #[.int .u8 202, .int .u8 0, .int .u8 0, .int .u8 1, .int .u8 255, .int .u8 255, .int .u8 254, .int .u8 1, .int .u8 202, .int .u8 0, .int .u8 0, .int .u8 0, .int .u8 255, .int .u8 255, .int .u8 255, .int .u8 202] 5)) (.slice (some ⟨w.heap.size, 0, none⟩) 16 16) [202, 0, 0, 1, 255, 255, 254, 1, 202, 0, 0, 0, 255, 255, 255, 202] := vb_row (s := [202, 0, 0, 1, 255, 255, 254, 1, 202, 0, 0, 0, 255, 255, 255, 202]) (heap_alloc_new w _) (by decide) (by decide)
  refine (scan_vb h (by decide)).mono ?_
  rintro e w' ⟨u, ue, rfl, ⟨Us, hg⟩, hi, hb⟩
  rw [k3.1] at hg hi
  rw [k4] at hi
  exact ⟨u, ue, by rw [k3.2]; rfl, hg.lv (by decide), gi_iv hi (by decide), ((Below.refl _ _).alloc (Nat.le_refl _) _).trans (hb.mono (by simp))⟩
theorem fix4 (w : World) (u : Value) (h : Vb w u [202, 0, 0, 2, 255, 255, 253, 7, 8]) : Calls Try.prog 10 #[u, .slice (some ⟨w.heap.size, 0, none⟩) 9 9] (w.alloc (.cells #[.int .u8 202, .int .u8 0, .int .u8 0, .int .u8 2, .int .u8 255, .int .u8 255, .int .u8 253, .int .u8 7, .int .u8 8] 5)) fun e w' => e = .returned (.bool true) ∧ Below w.heap.size w w' := by
  have k : Below w.heap.size w (w.alloc (.cells #[.int .u8 202, .int .u8 0, .int .u8 0, .int .u8 2, .int .u8 255, .int .u8 255, .int .u8 253, .int .u8 7, .int .u8 8] 5)) := (Below.refl _ _).alloc (Nat.le_refl _) _
  refine (same_yes (h.keep k) (vb_row (s := [202, 0, 0, 2, 255, 255, 253, 7, 8]) (heap_alloc_new w _) (by decide) (by decide)) rfl).mono ?_
  rintro e w' ⟨rfl, hb⟩
  exact ⟨rfl, k.trans (hb.mono (by simp))⟩
theorem fix5 (w : World) (u : Value) (h : Vb w u [7, 8]) : Calls Try.prog 10 #[u, .slice (some ⟨w.heap.size, 0, none⟩) 2 2] (w.alloc (.cells #[.int .u8 7, .int .u8 8] 5)) fun e w' => e = .returned (.bool true) ∧ Below w.heap.size w w' := by
  have k : Below w.heap.size w (w.alloc (.cells #[.int .u8 7, .int .u8 8] 5)) := (Below.refl _ _).alloc (Nat.le_refl _) _
  refine (same_yes (h.keep k) (vb_row (s := [7, 8]) (heap_alloc_new w _) (by decide) (by decide)) rfl).mono ?_
  rintro e w' ⟨rfl, hb⟩
  exact ⟨rfl, k.trans (hb.mono (by simp))⟩

set_option maxRecDepth 100000 in
set_option maxHeartbeats 1600000 in
theorem fixed_any (w : World) : Calls Try.prog 11 #[] w fun e w' => e = .returned (.bool true) ∧ Below w.heap.size w w' := by
  go_enter Try.func11, Try.ntmps11
  go_wp2_with fail
  refine (fix1 w).mono ?_
  rintro e w1 ⟨u1, rfl, hu, b1⟩
  have H1 : Hid (Vb w1 u1 [202, 0, 0, 2, 255, 255, 253, 7, 8] ∧ Below w.heap.size w w1) := ⟨hu, b1⟩
  clear hu b1
  go_wp2_with fail
  refine (fix2 w1).mono ?_
  rintro e w2 ⟨u2, rfl, hv, b2⟩
  have H2 : Hid (Vb w2 u2 [7, 8] ∧ Vb w2 u1 [202, 0, 0, 2, 255, 255, 253, 7, 8] ∧ Below w.heap.size w w2) := ⟨hv, H1.out.1.keep b2, ch H1.out.2 b2⟩
  clear hv b2 H1
  go_wp2_with fail
  refine (fix3 w2).mono ?_
  rintro e w3 ⟨u3, u4, rfl, hl, hi, b3⟩
  have H3 : Hid (Vb w3 u2 [7, 8] ∧ Vb w3 u1 [202, 0, 0, 2, 255, 255, 253, 7, 8] ∧ Lv w3 u3 [[1], []] ∧ Iv w3 u4 [8, 15] ∧ Below w.heap.size w w3) := ⟨H2.out.1.keep b3, H2.out.2.1.keep b3, hl, hi, ch H2.out.2.2 b3⟩
  clear hl hi b3 H2
  go_wp2_with fail
  refine (fix4 w3 u1 H3.out.2.1).mono ?_
  rintro e w4 ⟨rfl, b4⟩
  have H4 : Hid (Vb w4 u2 [7, 8] ∧ Lv w4 u3 [[1], []] ∧ Iv w4 u4 [8, 15] ∧ Below w.heap.size w w4) := ⟨H3.out.1.keep b4, H3.out.2.2.1.keep b4, H3.out.2.2.2.1.keep b4, ch H3.out.2.2.2.2 b4⟩
  clear b4 H3
  go_wp2_with fail
  refine (fix5 w4 u2 H4.out.1).mono ?_
  rintro e w5 ⟨rfl, b5⟩
  obtain ⟨a, b, off, c, Us, e1, h1, h2, h3, h4, h5, h6⟩ := H4.out.2.1.keep b5
  obtain ⟨a', b', off', c', e2, g1, g2, g3, g4⟩ := H4.out.2.2.1.keep b5
  have H5 : Hid (Below w.heap.size w w5) := ch H4.out.2.2.2 b5
  clear b5 H4
  obtain rfl := h2 (by decide)
  obtain rfl := g1 (by decide)
  subst e1
  subst e2
  obtain ⟨x0, x1, rfl⟩ : ∃ x0 x1, Us = [x0, x1] := by
    match Us, h1 with
    | [x0, x1], _ => exact ⟨x0, x1, rfl⟩
  have c0 := h3 0 x0 rfl
  have c1 := h3 1 x1 rfl
  obtain ⟨p0, q0, r0, s0, rfl, v0, _⟩ := h4 0 x0 [1] rfl rfl
  obtain ⟨p1, q1, r1, s1, rfl, v1, _⟩ := h4 1 x1 [] rfl rfl
  obtain rfl := v0.at_ (by decide)
  have c2 : w5.cell? ⟨q0, r0, none⟩ = some (.int .u8 1) := v0.cell 0 (by decide)
  have c3 : w5.cell? ⟨b', off', none⟩ = some (.int .i64 8) := g2 0 (by decide)
  have c4 : w5.cell? ⟨b', off' + 1, none⟩ = some (.int .i64 15) := g2 1 (by decide)
  rw [Nat.add_zero] at c0
  clear h1 h2 h3 h4 g1 g2 v0 v1
  simp only [List.length_cons, List.length_nil] at *
  go_wp2_with fail
  go_ret
  exact ⟨rfl, H5.out⟩
end Go.Proofs.Ytnknhjabebcmeaa
