import Derived.Test.YtledfigfokoiiaaRpq
/-
  cairnref15: span.
-/
namespace Go.Proofs.Ytledfigfokoiiaa
open Go.RowKit
/-- the length's bytes, from i on; n so far -/
def spD (s : List Nat) : Nat → Nat → Nat → Option Nat
  | 0, _, n => some n
  | f + 1, i, n => if s.length ≤ i ∨ 131072 < n then none else spD s f (i + 1) (256 * n + gd s i)
/-- WHAT span ANSWERS -/
def spn (s : List Nat) (l : Bool) : Nat × Nat × Bool :=
  if s.length = 0 ∨ decide (192 ≤ gd s 0) ≠ l then (0, 0, false)
  else if gd s 0 < 128 then (0, 1, true)
  else if gd s 0 % 64 < 56 then (1, 1 + gd s 0 % 64, decide (1 + gd s 0 % 64 ≤ s.length))
  else match spD s (gd s 0 % 64 - 55) 1 0 with
    | none => (0, 0, false)
    | some n => (gd s 0 % 64 - 54, gd s 0 % 64 - 54 + n, decide (gd s 0 % 64 - 54 + n ≤ s.length))
theorem spD_le (s : List Nat) (hs : ∀ x ∈ s, x < 256) : ∀ (f i n m : Nat), n ≤ 33554687 → spD s f i n = some m → m ≤ 33554687 := by
  intro f
  induction f with
  | zero => intro i n m h e; rw [spD] at e; injection e with e; omega
  | succ f ih =>
    intro i n m h e
    rw [spD] at e
    split at e
    · cases e
    · rename_i q
      have := gd_lt hs i
      exact ih _ _ _ (by omega) e
/-- a span that is right -/
theorem spn_ok {s : List Nat} {l : Bool} {lo hi : Nat} (h : spn s l = (lo, hi, true)) : lo ≤ hi ∧ 0 < hi ∧ hi ≤ s.length := by
  unfold spn at h
  split at h
  · cases h
  · rename_i q
    split at h
    · injection h with h1 h2
      injection h2 with h2 h3
      omega
    · split at h
      · injection h with h1 h2
        injection h2 with h2 h3
        have := of_decide_eq_true h3
        omega
      · split at h
        · cases h
        · injection h with h1 h2
          injection h2 with h2 h3
          have := of_decide_eq_true h3
          omega
set_option maxRecDepth 100000 in
set_option maxHeartbeats 3200000 in
theorem span_any (w : World) (v : Value) (s : List Nat) (l : Bool) (h : Vb w v s) : Calls Try.prog 21 #[v, .bool l] w fun e w' => e = .returned (.tuple #[.int .i64 (spn s l).1, .int .i64 (spn s l).2.1, .bool (spn s l).2.2]) ∧ w' = w := by
  obtain ⟨a, b, off, c, rfl, hv, hc, hnil, hl⟩ := h
  have hs := (vw_ok hv).2
  obtain ⟨n, en⟩ : ∃ n, n = s.length := ⟨_, rfl⟩
  by_cases h0 : n = 0
  · have e : spn s l = (0, 0, false) := by unfold spn; rw [if_pos (Or.inl (by omega))]
    rw [e, ← en, h0]
    clear hv hc en
    go_enter Try.func21, Try.ntmps21
    go_wp2_with fail
    go_ret3
    exact ⟨rfl, rfl⟩
  · obtain rfl := hv.at_ (by omega)
    have c0 := hv.cell 0 (by omega)
    rw [Nat.add_zero] at c0
    obtain ⟨x, ex⟩ : ∃ x, x = gd s 0 := ⟨_, rfl⟩
    have hx : x < 256 := by rw [ex]; exact gd_lt hs 0
    rw [← ex] at c0
    have HV : Hid (Vw w (some ⟨b, off, none⟩) b off s ∧ n = s.length ∧ x = gd s 0 ∧ ∀ x ∈ s, x < 256) := ⟨hv, en, ex, hs⟩
    rw [← en] at hc hl ⊢
    have h0i : ¬ ((n : Int) = 0) := by omega
    have h0j : (0 : Int) < (n : Int) := by omega
    by_cases hw : decide (192 ≤ x) = l
    · have HE : Hid (spn s l = if x < 128 then (0, 1, true) else if x % 64 < 56 then (1, 1 + x % 64, decide (1 + x % 64 ≤ n)) else match spD s (x % 64 - 55) 1 0 with
          | none => (0, 0, false)
          | some m => (x % 64 - 54, x % 64 - 54 + m, decide (x % 64 - 54 + m ≤ n))) := by
        show _ = _
        unfold spn
        rw [if_neg (fun q => by
          rcases q with q | q
          · omega
          · exact q (by rw [← ex]; exact hw)), ← ex, ← en]
      have iw : decide ((192 : Int) ≤ (x : Int)) = l := by
        rw [← hw]
        by_cases q : 192 ≤ x
        · rw [decide_eq_true q, decide_eq_true (by omega)]
        · rw [decide_eq_false q, decide_eq_false (by omega)]
      clear hv en ex hs hw
      by_cases h1 : x < 128
      · have i1 : (x : Int) < 128 := by omega
        rw [HE.out, if_pos h1]
        go_enter Try.func21, Try.ntmps21
        go_wp2_with fail
        go_ret3
        exact ⟨rfl, rfl⟩
      · have i1 : ¬ (x : Int) < 128 := by omega
        have m1 : (x : Int).tmod 64 = ((x % 64 : Nat) : Int) := by rw [Int.tmod_eq_emod_of_nonneg (by omega)]; omega
        obtain ⟨y, ey⟩ : ∃ y, y = x % 64 := ⟨_, rfl⟩
        have hy : y < 64 := by omega
        have HY : Hid (y = x % 64) := ey
        rw [← ey] at m1
        by_cases h2 : y < 56
        · have i2 : (y : Int) < 56 := by omega
          have e2 : spn s l = (1, 1 + y, decide (1 + y ≤ n)) := by rw [HE.out, if_neg h1, ← ey, if_pos h2]
          have e3 : decide (1 + y ≤ n) = decide ((1 : Int) + (y : Int) ≤ (n : Int)) := by
            by_cases q : 1 + y ≤ n
            · rw [decide_eq_true q, decide_eq_true (by omega)]
            · rw [decide_eq_false q, decide_eq_false (by omega)]
          rw [e2, e3]
          clear ey e2 e3
          go_enter Try.func21, Try.ntmps21
          go_wp2_with fail
          go_ret3
          exact ⟨rfl, rfl⟩
        · have i2 : ¬ (y : Int) < 56 := by omega
          have HE2 : Hid (spn s l = match spD s (y - 55) 1 0 with
            | none => (0, 0, false)
            | some m => (y - 54, y - 54 + m, decide (y - 54 + m ≤ n))) := by show _ = _; rw [HE.out, if_neg h1, ← ey, if_neg h2]
          clear ey
          go_enter Try.func21, Try.ntmps21
          go_wp2_with fail
          go_loopg [8, 9] (y - 55) (fun g m i wr => ∃ (k q : Nat), 1 ≤ k ∧ k ≤ y - 54 ∧ g = y - 54 - k ∧ i = .int .i64 k ∧ m = .int .i64 q ∧ q ≤ 33554687 ∧ spD s (y - 55) 1 0 = spD s (y - 54 - k) k q ∧ wr = w)
          case atStart => exact ⟨1, 0, by omega, by omega, by omega, rfl, rfl, by omega, by rw [show y - 54 - 1 = y - 55 by omega], rfl⟩
          case round =>
            obtain ⟨k, q, hk1, hk2, rfl, rfl, rfl, hq, hsp, hwr⟩ := hrel
            subst wr
            have HSP : Hid (spD s (y - 55) 1 0 = spD s (y - 54 - k) k q) := hsp
            clear hsp
            by_cases h3 : k ≤ y - 55
            · have i3 : (k : Int) ≤ (y : Int) - 55 := by omega
              have HS2 : Hid (spD s (y - 54 - k) k q = if s.length ≤ k ∨ 131072 < q then none else spD s (y - 54 - (k + 1)) (k + 1) (256 * q + gd s k)) := by
                show _ = _
                rw [show y - 54 - k = (y - 54 - (k + 1)) + 1 by omega, spD]
              by_cases h4 : n ≤ k
              · have i4 : (n : Int) ≤ (k : Int) := by omega
                have e : spn s l = (0, 0, false) := by rw [HE2.out, HSP.out, HS2.out, if_pos (Or.inl (by have := HV.out.2.1; omega))]
                have HX : Hid (spn s l = (0, 0, false)) := e
                clear e
                go_wp2_with fail
                go_ret3
                exact ⟨by rw [HX.out]; rfl, rfl⟩
              · have i4 : ¬ (n : Int) ≤ (k : Int) := by omega
                by_cases h5 : 131072 < q
                · have i5 : (131072 : Int) < (q : Int) := by omega
                  have e : spn s l = (0, 0, false) := by rw [HE2.out, HSP.out, HS2.out, if_pos (Or.inr h5)]
                  have HX : Hid (spn s l = (0, 0, false)) := e
                  clear e
                  go_wp2_with fail
                  go_ret3
                  exact ⟨by rw [HX.out]; rfl, rfl⟩
                · have i5 : ¬ (131072 : Int) < (q : Int) := by omega
                  have ck := HV.out.1.cell k (by have := HV.out.2.1; omega)
                  have hgk := gd_lt HV.out.2.2.2 k
                  have HX : Hid (spD s (y - 55) 1 0 = spD s (y - 54 - (k + 1)) (k + 1) (256 * q + gd s k)) := by
                    show _ = _
                    rw [HSP.out, HS2.out, if_neg (by have := HV.out.2.1; omega)]
                  generalize gd s k = z at ck HX hgk
                  go_wp2_with fail
                  go_roundg (y - 54 - (k + 1))
                  case measure => omega
                  case rel => exact ⟨k + 1, 256 * q + z, by omega, by omega, rfl, by go_num, by congr 1, by omega, HX.out, rfl⟩
            · have i3 : ¬ (k : Int) ≤ (y : Int) - 55 := by omega
              have ek : k = y - 54 := by omega
              have HX : Hid (spn s l = (y - 54, y - 54 + q, decide (y - 54 + q ≤ n))) := by
                show _ = _
                rw [HE2.out, HSP.out, show y - 54 - k = 0 by omega, spD]
              go_wp2_with fail
              go_ret3
              refine ⟨?_, rfl⟩
              rw [HX.out]
              have d : decide (y - 54 + q ≤ n) = decide ((1 : Int) + (y : Int) - 55 + (q : Int) ≤ (n : Int)) := by
                by_cases z : y - 54 + q ≤ n
                · rw [decide_eq_true z, decide_eq_true (by omega)]
                · rw [decide_eq_false z, decide_eq_false (by omega)]
              rw [d, show ((y - 54 : Nat) : Int) = (1 : Int) + (y : Int) - 55 by omega, show ((y - 54 + q : Nat) : Int) = (1 : Int) + (y : Int) - 55 + (q : Int) by omega]
              rfl
    · have iw : ¬ decide ((192 : Int) ≤ (x : Int)) = l := fun q => hw (by
        rw [← q]
        by_cases z : 192 ≤ x
        · rw [decide_eq_true z, decide_eq_true (by omega)]
        · rw [decide_eq_false z, decide_eq_false (by omega)])
      have e : spn s l = (0, 0, false) := by unfold spn; rw [if_pos (Or.inr (by rw [← ex]; exact hw))]
      have iw2 : (decide ((192 : Int) ≤ (x : Int)) == l) = false := beq_eq_false_iff_ne.2 iw
      rw [e]
      clear hv en ex hs hw e
      go_enter Try.func21, Try.ntmps21
      go_wp2_with fail
      go_ret3
      exact ⟨rfl, rfl⟩
end Go.Proofs.Ytledfigfokoiiaa
