import Derived.Test.YtddpcoglbmlgcaaGreatDoorNRhzz
import Derived.Lib.SliceRun
/-
  An item that a call has made: each string in a block of its own.
-/
namespace Go.Proofs.YtddpcoglbmlgcaaGreatDoor
open Go.RowKit
/-- the cells of items -/
def fl (ys : List (Bool × Value × Value)) : List Value := ys.flatMap (fun y => [.bool y.1, y.2.1, y.2.2])
theorem fl_len (ys : List (Bool × Value × Value)) : (fl ys).length = ys.length * 3 := by
  unfold fl
  induction ys with
  | nil => rfl
  | cons y t ih => rw [List.flatMap_cons, List.length_append, ih]; simp; omega
theorem fl_at {ys : List (Bool × Value × Value)} {i : Nat} {y : Bool × Value × Value} (h : ys[i]? = some y) : (fl ys)[i * 3]? = some (.bool y.1) ∧ (fl ys)[i * 3 + 1]? = some y.2.1 ∧ (fl ys)[i * 3 + 2]? = some y.2.2 := by
  unfold fl
  induction ys generalizing i with
  | nil => simp at h
  | cons z t ih =>
    cases i with
    | zero =>
      simp at h
      subst h
      exact ⟨rfl, rfl, rfl⟩
    | succ i =>
      have := ih (i := i) (by simpa using h)
      rw [List.flatMap_cons, show (i + 1) * 3 = i * 3 + 3 by omega]
      exact this
theorem fl_app (ys zs : List (Bool × Value × Value)) : fl (ys ++ zs) = fl ys ++ fl zs := by simp [fl]
/-- MADE BY A CALL: all its blocks from lo on, below hi. -/
inductive Own (w : World) : Nat → Nat → It → Value → Value → Prop
  | str {lo hi : Nat} {b : List Nat} {vb : Value} (hb : w.ownsRow lo 5 1 vb b.length (bv b)) (hlt : ∀ q, vb.ownBlock = some q → q < hi) (ok : ∀ x ∈ b, x < 256) (hl : b.length ≤ 1048576) : Own w lo hi (.mk false b []) vb (.slice none 0 0)
  | lst {lo hi : Nat} {xs : List It} {vi : Value} (ys : List (Bool × Value × Value)) (s t : Nat → Nat) (row : w.ownsRow lo 134 3 vi xs.length (fl ys)) (hlt : ∀ q, vi.ownBlock = some q → q < hi) (hl : ys.length = xs.length) (hn : xs.length ≤ 1048576)
      (h1 : ∀ i, i < xs.length → lo ≤ s i) (h2 : ∀ i, i + 1 < xs.length → t i ≤ s (i + 1)) (h3 : ∀ i, i < xs.length → t i ≤ hi) (h4 : ∀ i, i < xs.length → s i ≤ t i) (hb : ∀ (i : Nat) (x : It) (y : Bool × Value × Value), xs[i]? = some x → ys[i]? = some y → y.1 = x.l)
      (hr : ∀ (i : Nat) (x : It) (y : Bool × Value × Value), xs[i]? = some x → ys[i]? = some y → Own w (s i) (t i) x y.2.1 y.2.2) : Own w lo hi (.mk true [] xs) (.slice none 0 0) vi
theorem own_same {w w' : World} {B e size n : Nat} {v : Value} {xs : List Value} (h : w.ownsRow B e size v n xs) (k : ∀ g, v.ownBlock = some g → w'.heap[g]? = w.heap[g]?) : w'.ownsRow B e size v n xs := by
  refine ⟨h.1, ?_⟩
  rcases h.2 with q | ⟨g, cap, cur, rfl, hb, hg, r⟩
  · exact Or.inl q
  · exact Or.inr ⟨g, cap, cur, rfl, hb, (k g rfl).trans hg, r⟩
theorem Own.same {w w' : World} : ∀ {lo hi : Nat} {x : It} {vb vi : Value}, Own w lo hi x vb vi → (∀ k, lo ≤ k → k < hi → w'.heap[k]? = w.heap[k]?) → Own w' lo hi x vb vi := by
  intro lo hi x vb vi h
  induction h with
  | str hb hlt ok hl => exact fun k => .str (own_same hb (fun g hg => k g (hb.lt g hg).1 (hlt g hg))) hlt ok hl
  | lst ys s t row hlt hl hn h1 h2 h3 h4 hb hr ih =>
    intro k
    refine .lst ys s t (own_same row (fun g hg => k g (row.lt g hg).1 (hlt g hg))) hlt hl hn h1 h2 h3 h4 hb (fun i x y hx hy => ih i x y hx hy (fun q q1 q2 => ?_))
    have hi := (List.getElem?_eq_some_iff.1 hx).1
    have := h1 i hi
    have := h3 i hi
    exact k q (by omega) (by omega)
theorem Own.wide {w : World} {lo hi lo' hi' : Nat} {x : It} {vb vi : Value} (h : Own w lo hi x vb vi) (h1 : lo' ≤ lo) (h2 : hi ≤ hi') : Own w lo' hi' x vb vi := by
  cases h with
  | str hb hlt ok hl => exact .str (own_rebase hb (fun g hg => by have := (hb.lt g hg).1; omega)) (fun q hq => by have := hlt q hq; omega) ok hl
  | lst ys s t row hlt hl hn h1' h2' h3 h4 hb hr =>
    exact .lst ys s t (own_rebase row (fun g hg => by have := (row.lt g hg).1; omega)) (fun q hq => by have := hlt q hq; omega) hl hn (fun i hi => by have := h1' i hi; omega) h2' (fun i hi => by have := h3 i hi; omega) h4 hb hr
theorem Own.keep {w w' : World} {lo hi : Nat} {x : It} {vb vi : Value} (h : Own w lo hi x vb vi) (k : Below w.heap.size w w') (hh : hi ≤ w.heap.size) : Own w' lo hi x vb vi := h.same (fun q _ q2 => k.block q (by omega))
theorem vb_of_own {w : World} {B n : Nat} {v : Value} {s : List Nat} (h : w.ownsRow B 5 1 v n (bv s)) (hn : s.length = n) (ok : ∀ x ∈ s, x < 256) (hl : n ≤ 140737488351232) : Vb w v s := by
  subst hn
  have st : Str w (fun _ => True) v s := ⟨own_base h, fun _ _ => trivial, ⟨by omega, ok⟩⟩
  obtain ⟨a, g, c, e, hc, hv, _⟩ := st.view
  refine ⟨a, g, 0, c, e, hv, hc, fun ha => ?_, hl⟩
  subst ha
  rcases h.2 with ⟨e2, _⟩ | ⟨g', cap, cur, e2, _⟩
  · rw [e] at e2
    injection e2
  · rw [e] at e2
    injection e2 with e2
    cases e2
theorem Own.lies {w : World} : ∀ {lo hi : Nat} {x : It} {vb vi : Value}, Own w lo hi x vb vi → Lies Vb w x vb vi := by
  intro lo hi x vb vi h
  induction h with
  | str hb hlt ok hl => exact Its.shut (xs := []) (a := none) (blk := 0) (off := 0) (c := 0) ⟨fun h => by simp at h, by simp, fun i x hx => by simp at hx⟩ (vb_of_own hb rfl ok (by omega))
  | @lst lo hi xs vi ys s t row hlt hl hn h1 h2 h3 h4 hb hr ih =>
    obtain ⟨a, c, e⟩ := own_slice row
    subst e
    have hA : 0 < xs.length → ∃ g, a = some ⟨g, 0, none⟩ := fun h0 => by
      rcases row.2 with ⟨_, q⟩ | ⟨g, cap, cur, e, _⟩
      · omega
      · injection e with e
        exact ⟨g, e⟩
    have hnil : Vb w (.slice none 0 0) [] := vb_of_own (B := 0) (n := 0) ⟨rfl, Or.inl ⟨rfl, rfl⟩⟩ rfl (by simp) (by omega)
    by_cases h0 : xs.length = 0
    · exact Its.shut (blk := 0) (off := 0) ⟨fun h => by omega, by omega, fun i x hx => by have := (List.getElem?_eq_some_iff.1 hx).1; omega⟩ hnil
    · obtain ⟨g, rfl⟩ := hA (by omega)
      refine Its.shut (blk := g) (off := 0) ⟨fun _ => rfl, by omega, fun i x hx => ?_⟩ hnil
      have hi := (List.getElem?_eq_some_iff.1 hx).1
      obtain ⟨y, hy⟩ : ∃ y, ys[i]? = some y := ⟨_, List.getElem?_eq_getElem (by omega)⟩
      obtain ⟨k1, k2, k3⟩ := fl_at hy
      have hL := ih i x y hx hy
      obtain ⟨a1, n1, c1, a2, n2, c2, e1, e2⟩ := hL.form
      have c1' := row.cells (g := g) rfl _ _ k1
      have c2' := row.cells (g := g) rfl _ _ k2
      have c3' := row.cells (g := g) rfl _ _ k3
      rw [add_flat] at c1' c2' c3'
      refine ⟨a1, n1, c1, a2, n2, c2, ?_, ?_, ?_, ?_⟩
      · rw [Nat.zero_add, c1', hb i x y hx hy]
      · rw [Nat.zero_add, c2', e1]
      · rw [Nat.zero_add, c3', e2]
      · rw [← e1, ← e2]; exact hL
theorem Own.zero (w : World) (lo hi : Nat) : Own w lo hi (.mk false [] []) (.slice none 0 0) (.slice none 0 0) := .str ⟨rfl, Or.inl ⟨rfl, rfl⟩⟩ (fun q hq => by cases hq) (by simp) (by simp)
set_option maxRecDepth 100000 in
set_option maxHeartbeats 1600000 in
theorem clone_any (w : World) (p : Addr) (b off c : Nat) (s : List Nat) (hv : Vw w (some p) b off s) (hl : s.length ≤ 140737488351232) :
    Calls Tryz.prog 33 #[.slice (some p) s.length c] w fun e w' => ∃ v, e = .returned v ∧ w'.ownsRow w.heap.size 5 1 v s.length (bv s) ∧ Below w.heap.size w w' ∧ ∀ q, v.ownBlock = some q → q < w'.heap.size := by
  have q22 : ∀ (w : World) (a : Option Addr) (n c n' c' : Nat), (binOp .eql 33 (.slice a n c) (.slice none n' c')).run Tryz.prog w = .ok (.bool a.isNone) w := fun w a n c n' c' => Lib.run_eql_slice_nil w _ _ a n c n' c' Tryz.underlying33
  have own0 := World.ownsRow_lit (base := w.heap.size) (e := 5) (size := 1) w #[] 0 (Nat.le_refl _) (by decide) rfl
  have v0 : Vw (w.alloc (.cells #[] 5)) (some p) b off s := hv.below (below_alloc w _)
  have HV0 : Hid (Vw (w.alloc (.cells #[] 5)) (some p) b off s) := v0
  clear hv v0
  go_enter Tryz.func33, Tryz.ntmps33
  go_wp2_with (refine wpList_append_bytes (by rfl) (.tmp 5) (.tmp 6) (by rfl) w.heap.size _ 0 [] (by rfl) own0 (some p) b off s.length c _ (by rfl) HV0.out (fun h => by cases h) (by omega) (by simp) ?_)
  intro v1 w1 own1 gr1 nn1
  have b1 : Below w.heap.size w w1 := (below_alloc w _).trans (grown_below gr1 own0 (Nat.le_refl _) (by simp))
  have own2 : w1.ownsRow w.heap.size 5 1 v1 s.length (bv s) := by rw [← vals_bv s]; simpa using own1
  have HZ : Hid (w1.ownsRow w.heap.size 5 1 v1 s.length (bv s) ∧ Below w.heap.size w w1) := ⟨own2, b1⟩
  clear own0 own1 own2 gr1 nn1 b1 HV0
  go_wp2_with fail
  go_ret
  exact ⟨v1, rfl, HZ.out.1, HZ.out.2, fun q hq => (HZ.out.1.lt q hq).2⟩
end Go.Proofs.YtddpcoglbmlgcaaGreatDoor
