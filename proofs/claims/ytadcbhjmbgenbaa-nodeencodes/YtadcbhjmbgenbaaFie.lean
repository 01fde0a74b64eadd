import Derived.Test.YtadcbhjmbgenbaaFste
import Derived.Test.YtadcbhjmbgenbaaCke
/-
  cairnref07: path, value.
-/
namespace Go.Proofs.Ytadcbhjmbgenbaa
open Go.RowKit

def nibs (s : List Nat) : Bool := s.all (fun x => decide (x ≤ 15))
theorem nibs_at {s : List Nat} {i : Nat} (hi : i < s.length) (h : ¬ gd s i ≤ 15) : nibs s = false := by
  unfold nibs
  rw [List.all_eq_false]
  exact ⟨s[i], List.getElem_mem hi, by rw [gd_get hi]; simpa using h⟩
theorem nibs_all {s : List Nat} (h : ∀ i, i < s.length → gd s i ≤ 15) : nibs s = true := by
  unfold nibs
  rw [List.all_eq_true]
  intro x hx
  obtain ⟨i, hi, rfl⟩ := List.getElem_of_mem hx
  rw [gd_get hi]
  simpa using h i hi
def pthF (s : List Nat) (lo : Nat) : Bool := nibs s && (decide (lo ≤ s.length) && decide (s.length ≤ 64))
set_option maxRecDepth 100000 in
set_option maxHeartbeats 1600000 in
theorem rpath_any {w : World} {v : Value} {s : List Nat} (h : Vb w v s) (lo : Nat) :
    Calls Try.prog 61 #[v, .int .i64 lo] w fun e w' => e = .returned (.bool (pthF s lo)) ∧ w' = w := by
  obtain ⟨a, b2, off, c, rfl, hv, -, hnil, hsl⟩ := h
  obtain ⟨n, en⟩ : ∃ n, n = s.length := ⟨_, rfl⟩
  have HV : Hid (∀ i, i < n → a = some ⟨b2, off, none⟩ ∧ w.cell? ⟨b2, off + i, none⟩ = some (.int .u8 (gd s i : Nat))) := fun i hi => ⟨hv.at_ (by omega), hv.cell i (by omega)⟩
  have HN : Hid (n = s.length) := en
  obtain ⟨R, eR⟩ : ∃ R, R = pthF s lo := ⟨_, rfl⟩
  have HR : Hid (R = pthF s lo) := eR
  rw [← en] at hsl ⊢
  rw [← eR]
  clear hv hnil en eR
  go_enter Try.func61, Try.ntmps61
  go_wp2_with fail
  go_loopg [5] n (fun gg k wr => ∃ i : Nat, i ≤ n ∧ gg = n - i ∧ k = .int .i64 i ∧ wr = w ∧ ∀ j, j < i → gd s j ≤ 15)
  case atStart => exact ⟨0, by omega, rfl, rfl, rfl, fun j hj => by omega⟩
  case round =>
    obtain ⟨i, hi, rfl, rfl, rfl, hj⟩ := hrel
    have HJ : Hid (∀ j, j < i → gd s j ≤ 15) := hj
    clear hj
    by_cases hin : i < n
    · have i1 : (i : Int) < n := by omega
      obtain ⟨rfl, c0⟩ := HV.out i hin
      by_cases h15 : gd s i ≤ 15
      · have i2 : ¬ (15 : Int) < ((gd s i : Nat) : Int) := by omega
        have HJ2 : Hid (∀ j, j < i + 1 → gd s j ≤ 15) := fun j hj => by
          by_cases e : j = i
          · subst e; exact h15
          · exact HJ.out j (by omega)
        generalize gd s i = y at c0 i2
        clear h15
        go_wp2_with fail
        go_roundg (n - (i + 1))
        case measure => omega
        case rel => exact ⟨i + 1, hin, rfl, by go_num, rfl, HJ2.out⟩
      · have i2 : (15 : Int) < ((gd s i : Nat) : Int) := by omega
        have HF : Hid (R = false) := by
          have : R = false := by rw [HR.out, pthF, nibs_at (by rw [← HN.out]; exact hin) h15]; rfl
          exact this
        generalize gd s i = y at c0 i2
        clear h15
        go_wp2_with fail
        go_ret
        rw [HF.out]
        exact ⟨rfl, rfl⟩
    · have i1 : ¬ (i : Int) < n := by omega
      have e : i = n := by omega
      subst e
      have HF : Hid (R = (decide (lo ≤ i) && decide (i ≤ 64))) := by
        have : R = (decide (lo ≤ i) && decide (i ≤ 64)) := by
          rw [HR.out, pthF, nibs_all (fun j hj => HJ.out j (by rw [HN.out]; exact hj)), ← HN.out]; rfl
        exact this
      by_cases h1 : lo ≤ i
      · have i2 : (lo : Int) ≤ (i : Int) := by omega
        go_wp2_with fail
        go_ret
        rw [HF.out]
        simp [h1]
        try omega
      · have i2 : ¬ (lo : Int) ≤ (i : Int) := by omega
        go_wp2_with fail
        go_ret
        rw [HF.out]
        simp [h1]
theorem rvalue_any {w : World} {v : Value} {s : List Nat} (h : Vb w v s) :
    Calls Try.prog 62 #[v] w fun e w' => e = .returned (.bool (isV s)) ∧ w' = w := by
  obtain ⟨a, b2, off, c, rfl, hv, -, hnil, hsl⟩ := h
  unfold isV
  generalize s.length = n at *
  clear hv hnil
  by_cases h1 : 0 < n
  · have i2 : (1 : Int) ≤ (n : Int) := by omega
    go_enter Try.func62, Try.ntmps62
    go_wp2_with fail
    go_ret
    simp [h1]
    try omega
  · have i2 : ¬ (1 : Int) ≤ (n : Int) := by omega
    go_enter Try.func62, Try.ntmps62
    go_wp2_with fail
    go_ret
    simp
end Go.Proofs.Ytadcbhjmbgenbaa

/-
  cairnref07: part.
-/
namespace Go.Proofs.Ytadcbhjmbgenbaa
open Go.RowKit

/-- the first form of bytes, loosely -/
structure Pt where
  l : Bool
  a : Nat
  e : Nat
  ok : Bool
def ptL (s : List Nat) : Nat → Nat → Nat → Option Nat
  | 0, _, n => some n
  | f + 1, i, n => if s.length ≤ i ∨ 1048576 < n then none else ptL s f (i + 1) (256 * n + gd s i)
def ptZ : Pt := ⟨false, 0, 0, false⟩
def ptF (s : List Nat) : Pt :=
  if s.length = 0 then ptZ
  else if gd s 0 < 128 then ⟨false, 0, 1, true⟩
  else if gd s 0 % 64 < 56 then ⟨decide (192 ≤ gd s 0), 1, 1 + gd s 0 % 64, decide (1 + gd s 0 % 64 ≤ s.length)⟩
  else match ptL s (gd s 0 % 64 - 55) 1 0 with
    | none => ptZ
    | some n => ⟨decide (192 ≤ gd s 0), 1 + (gd s 0 % 64 - 55), 1 + (gd s 0 % 64 - 55) + n, decide (1 + (gd s 0 % 64 - 55) + n ≤ s.length)⟩
def Pt.v (p : Pt) : Value := .tuple #[.bool p.l, .int .i64 p.a, .int .i64 p.e, .bool p.ok]
theorem res4t {fn : Func} {p q r t : Tmp} (h : fn.results = #[.tmp p, .tmp q, .tmp r, .tmp t]) (tmps : Array Value) (w : World) (vp vq vr vt : Value) (hp : tmps.getD p undef = vp) (hq : tmps.getD q undef = vq) (hr : tmps.getD r undef = vr) (ht : tmps.getD t undef = vt) :
    (results fn tmps).run Try.prog w = .ok (.tuple #[vp, vq, vr, vt]) w := by
  have hp' : tmps[p]?.getD undef = vp := by simpa using hp
  have hq' : tmps[q]?.getD undef = vq := by simpa using hq
  have hr' : tmps[r]?.getD undef = vr := by simpa using hr
  have ht' : tmps[t]?.getD undef = vt := by simpa using ht
  simp [results, h, hp', hq', hr', ht']
set_option maxRecDepth 100000 in
set_option maxHeartbeats 1600000 in
theorem rpart_any {w : World} {v : Value} {s : List Nat} (h : Vb w v s) : Calls Try.prog 78 #[v] w fun e w' => e = .returned (ptF s).v ∧ w' = w := by
  obtain ⟨a, b2, off, c, rfl, hv, -, -, hsl⟩ := h
  obtain ⟨n, en⟩ : ∃ n, n = s.length := ⟨_, rfl⟩
  have HV : Hid (∀ i, i < n → a = some ⟨b2, off, none⟩ ∧ w.cell? ⟨b2, off + i, none⟩ = some (.int .u8 (gd s i : Nat)) ∧ gd s i < 256) := fun i hi => ⟨hv.at_ (by omega), hv.cell i (by omega), gd_lt (vw_ok hv).2 i⟩
  obtain ⟨R, eR⟩ : ∃ R, R = ptF s := ⟨_, rfl⟩
  have HN : Hid (n = s.length) := en
  have HR : Hid (R = ptF s) := eR
  rw [← en] at hsl ⊢
  rw [← eR]
  clear hv en eR
  by_cases h0 : n = 0
  · have HF : Hid (R = ptZ) := by show _ = _; rw [HR.out, ptF, if_pos (by rw [← HN.out]; exact h0)]
    subst h0
    go_enter Try.func78, Try.ntmps78
    go_wp2_with fail
    refine bodyPost_ret (res4t rfl _ _ _ _ _ _ rfl rfl rfl rfl) rfl ?_
    rw [HF.out]
    exact ⟨rfl, rfl⟩
  · have i0 : ¬ (n : Int) = 0 := by omega
    have i0b : ((n : Int) == 0) = false := by simpa using i0
    have i0c : (0 : Int) < n := by omega
    obtain ⟨rfl, c0, x256⟩ := HV.out 0 (by omega)
    rw [Nat.add_zero] at c0
    obtain ⟨x, ex⟩ : ∃ x, x = gd s 0 := ⟨_, rfl⟩
    have HE : Hid (R = if x < 128 then (⟨false, 0, 1, true⟩ : Pt) else if x % 64 < 56 then ⟨decide (192 ≤ x), 1, 1 + x % 64, decide (1 + x % 64 ≤ n)⟩ else match ptL s (x % 64 - 55) 1 0 with | none => ptZ | some m => ⟨decide (192 ≤ x), 1 + (x % 64 - 55), 1 + (x % 64 - 55) + m, decide (1 + (x % 64 - 55) + m ≤ n)⟩) := by
      show _ = _
      rw [HR.out, ptF, if_neg (by rw [← HN.out]; exact h0), ex, HN.out]
    rw [← ex] at c0 x256
    clear ex HR h0
    have q8 : ((x : Nat) : Int) % 18446744073709551616 = (x : Int) := by omega
    have qt : (x : Int).tmod 64 = (x : Int) % 64 := Int.tmod_eq_emod_of_nonneg (by omega)
    by_cases h1 : x < 128
    · have i1 : (x : Int) < 128 := by omega
      have HF : Hid (R = ⟨false, 0, 1, true⟩) := by show _ = _; rw [HE.out, if_pos h1]
      clear HE h1
      go_enter Try.func78, Try.ntmps78
      go_wp2_with fail
      refine bodyPost_ret (res4t rfl _ _ _ _ _ _ rfl rfl rfl rfl) rfl ?_
      rw [HF.out]
      exact ⟨rfl, rfl⟩
    · have i1 : ¬ (x : Int) < 128 := by omega
      obtain ⟨l, el⟩ : ∃ l, l = decide ((192 : Int) ≤ (x : Int)) := ⟨_, rfl⟩
      have el2 : decide (192 ≤ x) = l := by rw [el]; by_cases q : 192 ≤ x <;> simp [q] <;> omega
      obtain ⟨d, ed⟩ : ∃ d, d = x % 64 := ⟨_, rfl⟩
      have ed2 : (x : Int) % 64 = (d : Int) := by omega
      have d64 : d < 64 := by omega
      have HE2 : Hid (R = if d < 56 then (⟨l, 1, 1 + d, decide (1 + d ≤ n)⟩ : Pt) else match ptL s (d - 55) 1 0 with | none => ptZ | some m => ⟨l, 1 + (d - 55), 1 + (d - 55) + m, decide (1 + (d - 55) + m ≤ n)⟩) := by
        show _ = _
        rw [HE.out, if_neg h1, el2, ed]
      have el3 := el.symm
      clear HE h1 el2 ed el
      by_cases h2 : d < 56
      · have i2 : (d : Int) < 56 := by omega
        have HF : Hid (R = ⟨l, 1, 1 + d, decide (1 + d ≤ n)⟩) := by show _ = _; rw [HE2.out, if_pos h2]
        have j2 : decide ((1 : Int) + (d : Int) ≤ (n : Int)) = decide (1 + d ≤ n) := by by_cases q : 1 + d ≤ n <;> simp [q] <;> omega
        clear HE2 h2
        go_enter Try.func78, Try.ntmps78
        go_wp2_with fail
        refine bodyPost_ret (res4t rfl _ _ _ _ _ _ rfl rfl rfl rfl) rfl ?_
        rw [HF.out, ← j2]
        exact ⟨rfl, rfl⟩
      · have i2 : ¬ (d : Int) < 56 := by omega
        obtain ⟨k, ek⟩ : ∃ k, k = d - 55 := ⟨_, rfl⟩
        have ek2 : (d : Int) - 55 = (k : Int) := by omega
        have k8 : k ≤ 8 := by omega
        have HF : Hid (R = match ptL s k 1 0 with | none => ptZ | some m => ⟨l, 1 + k, 1 + k + m, decide (1 + k + m ≤ n)⟩) := by show _ = _; rw [HE2.out, if_neg h2, ek]
        clear HE2 h2 ek
        go_enter Try.func78, Try.ntmps78
        go_wp2_with fail
        go_loopg [9, 10] k (fun gg u v wr => ∃ (i m : Nat), 1 ≤ i ∧ i ≤ k + 1 ∧ gg = k + 1 - i ∧ u = .int .i64 m ∧ v = .int .i64 i ∧ ptL s k 1 0 = ptL s (k + 1 - i) i m ∧ m ≤ 268435711 ∧ wr = w)
        case atStart => exact ⟨1, 0, by omega, by omega, by omega, rfl, rfl, by rw [show k + 1 - 1 = k by omega], by omega, rfl⟩
        case round =>
          obtain ⟨i, m, hi1, hik, rfl, rfl, rfl, hp, hm, rfl⟩ := hrel
          have HP : Hid (ptL s k 1 0 = ptL s (k + 1 - i) i m) := hp
          clear hp
          by_cases hin : i ≤ k
          · have j1 : (i : Int) ≤ k := by omega
            have HU : Hid (ptL s k 1 0 = if s.length ≤ i ∨ 1048576 < m then none else ptL s (k + 1 - (i + 1)) (i + 1) (256 * m + gd s i)) := by
              show _ = _
              rw [HP.out, show k + 1 - i = (k + 1 - (i + 1)) + 1 by omega, ptL]
            by_cases hni : n ≤ i
            · have j2 : (n : Int) ≤ i := by omega
              have HG : Hid (R = ptZ) := by show _ = _; rw [HF.out, HU.out, if_pos (Or.inl (by rw [← HN.out]; exact hni))]
              clear HF HU HP
              go_wp2_with fail
              refine bodyPost_ret (res4t rfl _ _ _ _ _ _ rfl rfl rfl rfl) rfl ?_
              rw [HG.out]
              exact ⟨rfl, rfl⟩
            · have j2 : ¬ (n : Int) ≤ i := by omega
              have j2b : (i : Int) < n := by omega
              by_cases hm2 : 1048576 < m
              · have j3 : (1048576 : Int) < m := by omega
                have HG : Hid (R = ptZ) := by show _ = _; rw [HF.out, HU.out, if_pos (Or.inr hm2)]
                clear HF HU HP
                go_wp2_with fail
                refine bodyPost_ret (res4t rfl _ _ _ _ _ _ rfl rfl rfl rfl) rfl ?_
                rw [HG.out]
                exact ⟨rfl, rfl⟩
              · have j3 : ¬ (1048576 : Int) < m := by omega
                obtain ⟨-, c1, y256⟩ := HV.out i (by omega)
                have HG : Hid (ptL s k 1 0 = ptL s (k + 1 - (i + 1)) (i + 1) (256 * m + gd s i)) := by show _ = _; rw [HU.out, if_neg (by rw [← HN.out]; omega)]
                generalize gd s i = y at c1 y256 HG
                have q9 : ((y : Nat) : Int) % 18446744073709551616 = (y : Int) := by omega
                clear HU HP
                go_wp2_with fail
                go_roundg (k + 1 - (i + 1))
                case measure => omega
                case rel => exact ⟨i + 1, 256 * m + y, by omega, by omega, rfl, by go_num, by go_num, HG.out, by omega, rfl⟩
          · have j1 : ¬ (i : Int) ≤ k := by omega
            have ei : i = k + 1 := by omega
            subst ei
            have HG : Hid (R = ⟨l, 1 + k, 1 + k + m, decide (1 + k + m ≤ n)⟩) := by
              show _ = _
              rw [HF.out, HP.out, show k + 1 - (k + 1) = 0 by omega, ptL]
            have j4 : decide ((1 : Int) + (k : Int) + (m : Int) ≤ (n : Int)) = decide (1 + k + m ≤ n) := by by_cases q : 1 + k + m ≤ n <;> simp [q] <;> omega
            clear HF HP
            go_wp2_with fail
            refine bodyPost_ret (res4t rfl _ _ _ _ _ _ rfl rfl rfl rfl) rfl ?_
            rw [HG.out, ← j4]
            exact ⟨rfl, rfl⟩
end Go.Proofs.Ytadcbhjmbgenbaa

/-
  cairnref07: item, empty.
-/
namespace Go.Proofs.Ytadcbhjmbgenbaa
open Go.RowKit

/-- how a ref stands in a list -/
def itF (r : Rf) : List Nat := if r.k = 2 then r.b else if r.k = 1 then sF r.h else sF []
theorem vb_rng {w : World} {b off : Nat} {s : List Nat} (h : w.rangeAt b off (bv s)) (hs : ∀ x ∈ s, x < 256) (hl : s.length ≤ 1048576) {n : Nat} (hn : s.length = n) : Vb w (.slice (some ⟨b, off, none⟩) n n) s := by
  subst hn
  exact ⟨_, b, off, s.length, rfl, ⟨fun _ => rfl, fun i hi => h i _ (bv_at hi), fun i hi => by have := gd_lt hs i; omega, by omega⟩, Nat.le_refl _, (fun h => by cases h), by omega⟩
theorem sF_len {b : List Nat} (h : b.length ≤ 1048576) : (sF b).length ≤ 1048592 := by
  by_cases ha : alone b = true
  · rw [sF_alone ha]; omega
  · rw [sF_head ha, List.length_append]
    have := hdr_len16 (base := 128) (n := b.length) (by omega)
    omega
theorem sF_byt {b : List Nat} (h : b.length ≤ 1048576) (hb : ∀ x ∈ b, x < 256) : ∀ x ∈ sF b, x < 256 := form_str_byt hb h
set_option maxRecDepth 100000 in
set_option maxHeartbeats 1600000 in
theorem ritem_any {w : World} {r : Rf} {v : Value} (hW : r.W) (hb : Vb w v r.b) : Calls Try.prog 35 #[.agg (rcs r v).toArray] w fun e w' => ∃ v', e = .returned v' ∧ Vb w' v' (itF r) ∧ Below w.heap.size w w' := by
  have B1 : Below w.heap.size w (w.alloc (.cells (rcs r v).toArray 26)) := below_alloc _ _
  have hvn : Vb (w.alloc (.cells (rcs r v).toArray 26)) v r.b := Rel.keep hb B1
  obtain ⟨c0, c1, c2⟩ := rng_ref hW.1 (rng_ref_new w r v 26)
  rw [Nat.zero_add] at c1 c2
  by_cases k2 : r.k = 2
  · have HE : Hid (itF r = r.b) := by show _ = _; unfold itF; rw [if_pos k2]
    have HX : Hid (Vb (w.alloc (.cells (rcs r v).toArray 26)) v r.b ∧ Below w.heap.size w (w.alloc (.cells (rcs r v).toArray 26))) := ⟨hvn, B1⟩
    rw [k2] at c0
    obtain ⟨a, b, off, c, rfl, -⟩ := hb
    generalize r.b.length = n at *
    clear k2 hW hvn B1 c1
    go_enter Try.func35, Try.ntmps35
    go_wp2_with fail
    go_ret
    rw [HE.out]
    exact ⟨_, rfl, HX.out⟩
  · have j2 : (r.k == 2) = false := by simpa using k2
    by_cases k1 : r.k = 1
    · have HE : Hid (itF r = sF r.h) := by show _ = _; unfold itF; rw [if_neg k2, if_pos k1]
      have K := rstr_any (vb_rng c1 hW.2.1 (by rw [hW.1]; omega) hW.1) (by rw [hW.1]; omega)
      have HX : Hid (r.W ∧ Below w.heap.size w (w.alloc (.cells (rcs r v).toArray 26))) := ⟨hW, B1⟩
      rw [k1] at c0
      clear k1 k2 j2 hvn B1 hW c1 c2 hb
      go_enter Try.func35, Try.ntmps35
      go_wp2_with (go_at_call 33; refine K.mono ?_; rintro e w1 ⟨v1, rfl, ho1, b1⟩; have HZ : Hid (Vb w1 v1 (sF r.h) ∧ Below w.heap.size w w1) := ⟨vb_of_own ho1 rfl (sF_byt (by rw [HX.out.1.1]; omega) HX.out.1.2.1) (by have := sF_len (b := r.h) (by rw [HX.out.1.1]; omega); omega), ch HX.out.2 b1⟩; clear ho1 b1 K)
      go_ret
      rw [HE.out]
      exact ⟨_, rfl, HZ.out⟩
    · have j1 : (r.k == 1) = false := by simpa using k1
      have HE : Hid (itF r = sF []) := by show _ = _; unfold itF; rw [if_neg k2, if_neg k1]
      have K := rstr_any (vb_nil (w.alloc (.cells (rcs r v).toArray 26))) (by simp)
      have HX : Hid (Below w.heap.size w (w.alloc (.cells (rcs r v).toArray 26))) := B1
      obtain ⟨q, eq⟩ : ∃ q, q = sF [] := ⟨_, rfl⟩
      rw [← eq] at K HE
      have HQ : Hid (∀ {B : Nat} {w1 : World} {v1 : Value}, w1.ownsRow B 5 1 v1 q.length (bv q) → Vb w1 v1 q) := fun h => by
        subst eq
        exact vb_of_own h rfl (sF_byt (by simp) (by simp)) (by have := sF_len (b := []) (by simp); omega)
      clear k1 k2 hvn B1 hW c1 c2 hb eq
      go_enter Try.func35, Try.ntmps35
      go_wp2_with (go_at_call 33; refine K.mono ?_; rintro e w1 ⟨v1, rfl, ho1, b1⟩; have HZ : Hid (Vb w1 v1 q ∧ Below w.heap.size w w1) := ⟨HQ.out ho1, ch HX.out b1⟩; clear ho1 b1 K)
      go_ret
      rw [HE.out]
      exact ⟨_, rfl, HZ.out⟩
set_option maxRecDepth 100000 in
set_option maxHeartbeats 1600000 in
theorem rempty_any {w : World} {r : Rf} {v : Value} (hW : r.W) (hb : Vb w v r.b) : Calls Try.prog 63 #[.agg (rcs r v).toArray] w fun e w' => e = .returned (.bool (isNo r)) ∧ Below w.heap.size w w' := by
  have B1 : Below w.heap.size w (w.alloc (.cells (rcs r v).toArray 26)) := below_alloc _ _
  obtain ⟨c0, c1, c2⟩ := rng_ref hW.1 (rng_ref_new w r v 26)
  rw [Nat.zero_add] at c1 c2
  have heq := fun w0 => eq_hash w0 r.h z32 hW.1 hW.2.1 z32_len z32_lt
  obtain ⟨a, b, off, c, rfl, hv, hc, -, hl⟩ := hb
  obtain ⟨n, en⟩ : ∃ n, n = r.b.length := ⟨_, rfl⟩
  have HI : Hid (isNo r = (decide (r.k = 0) && (decide (r.h = z32) && decide (n = 0)))) := by show _ = _; rw [en]; rfl
  rw [← en] at hl hc c2 B1 ⊢ c0 c1
  have HB : Hid (Below w.heap.size w (w.alloc (.cells (rcs r (.slice a n c)).toArray 26))) := B1
  have hh := hW.1
  clear en B1 hW hv
  by_cases k0 : r.k = 0
  · rw [k0] at c0
    have HK : Hid (r.k = 0) := k0
    clear k0
    by_cases hz : r.h = z32
    · rw [decide_eq_true hz] at heq
      have HZ : Hid (r.h = z32) := hz
      clear hz
      by_cases h0 : n = 0
      · subst h0
        go_enter Try.func63, Try.ntmps63
        go_wp2_with (first | refine wpList_ld24 (by kernel_rfl) _ (by rfl) _ _ _ hh c1 (by rfl) ?_ | refine wpList_bd24 (by kernel_rfl) (by rfl) ?_)
        go_ret
        rw [HI.out, decide_eq_true HK.out, decide_eq_true HZ.out]
        exact ⟨rfl, HB.out⟩
      · have i0 : ¬ (n : Int) = 0 := by omega
        have i0b : ((n : Int) == 0) = false := by simpa using i0
        have HF : Hid (decide (n = 0) = false) := decide_eq_false h0
        go_enter Try.func63, Try.ntmps63
        go_wp2_with (first | refine wpList_ld24 (by kernel_rfl) _ (by rfl) _ _ _ hh c1 (by rfl) ?_ | refine wpList_bd24 (by kernel_rfl) (by rfl) ?_)
        go_ret
        rw [HI.out, decide_eq_true HK.out, decide_eq_true HZ.out, HF.out]
        exact ⟨rfl, HB.out⟩
    · rw [decide_eq_false hz] at heq
      have HZ : Hid (decide (r.h = z32) = false) := decide_eq_false hz
      go_enter Try.func63, Try.ntmps63
      go_wp2_with (first | refine wpList_ld24 (by kernel_rfl) _ (by rfl) _ _ _ hh c1 (by rfl) ?_ | refine wpList_bd24 (by kernel_rfl) (by rfl) ?_)
      go_ret
      rw [HI.out, decide_eq_true HK.out, HZ.out]
      exact ⟨rfl, HB.out⟩
  · have j0 : (r.k == 0) = false := by simpa using k0
    have HK : Hid (decide (r.k = 0) = false) := decide_eq_false k0
    go_enter Try.func63, Try.ntmps63
    go_wp2_with fail
    go_ret
    rw [HI.out, HK.out]
    exact ⟨rfl, HB.out⟩
end Go.Proofs.Ytadcbhjmbgenbaa
