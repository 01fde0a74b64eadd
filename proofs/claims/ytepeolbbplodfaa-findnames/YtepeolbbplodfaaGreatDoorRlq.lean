import Derived.Test.YtepeolbbplodfaaGreatDoorEncq
import Derived.Lib.SliceRun
/-
  An item that a call has made: each string in a block of its own.
-/
namespace Go.Proofs.YtepeolbbplodfaaGreatDoor
open Go.RowKit

/-- the cells of items -/
def fl (ys : List (Bool × Value × Value)) : List Value := ys.flatMap (fun y => [.bool y.1, y.2.1, y.2.2])
theorem fl_len (ys : List (Bool × Value × Value)) : (fl ys).length = ys.length * 3 := by
  unfold fl
  induction ys with
  | nil => rfl
  | cons y t ih => rw [List.flatMap_cons, List.length_append, ih]; simp; omega
theorem fl_at {ys : List (Bool × Value × Value)} {i : Nat} {y : Bool × Value × Value} (h : ys[i]? = some y) : (fl ys)[i * 3]? = some (.bool y.1) ∧ (fl ys)[i * 3 + 1]? = some y.2.1 ∧ (fl ys)[i * 3 + 2]? = some y.2.2 := by
  unfold fl
  induction ys generalizing i with
  | nil => simp at h
  | cons z t ih =>
    cases i with
    | zero =>
      simp at h
      subst h
      exact ⟨rfl, rfl, rfl⟩
    | succ i =>
      have := ih (i := i) (by simpa using h)
      rw [List.flatMap_cons, show (i + 1) * 3 = i * 3 + 3 by omega]
      exact this
theorem fl_app (ys zs : List (Bool × Value × Value)) : fl (ys ++ zs) = fl ys ++ fl zs := by simp [fl]

/-- MADE BY A CALL: all its blocks from lo on, below hi. -/
inductive Own (w : World) : Nat → Nat → It → Value → Value → Prop
  | str {lo hi : Nat} {b : List Nat} {vb : Value} (hb : w.ownsRow lo 5 1 vb b.length (bv b)) (hlt : ∀ q, vb.ownBlock = some q → q < hi) (ok : ∀ x ∈ b, x < 256) (hl : b.length ≤ 1048576) : Own w lo hi (.mk false b []) vb (.slice none 0 0)
  | lst {lo hi : Nat} {xs : List It} {vi : Value} (ys : List (Bool × Value × Value)) (s t : Nat → Nat) (row : w.ownsRow lo 191 3 vi xs.length (fl ys)) (hlt : ∀ q, vi.ownBlock = some q → q < hi) (hl : ys.length = xs.length) (hn : xs.length ≤ 1048576)
      (h1 : ∀ i, i < xs.length → lo ≤ s i) (h2 : ∀ i, i + 1 < xs.length → t i ≤ s (i + 1)) (h3 : ∀ i, i < xs.length → t i ≤ hi) (h4 : ∀ i, i < xs.length → s i ≤ t i) (hb : ∀ (i : Nat) (x : It) (y : Bool × Value × Value), xs[i]? = some x → ys[i]? = some y → y.1 = x.l)
      (hr : ∀ (i : Nat) (x : It) (y : Bool × Value × Value), xs[i]? = some x → ys[i]? = some y → Own w (s i) (t i) x y.2.1 y.2.2) : Own w lo hi (.mk true [] xs) (.slice none 0 0) vi
theorem own_same {w w' : World} {B e size n : Nat} {v : Value} {xs : List Value} (h : w.ownsRow B e size v n xs) (k : ∀ g, v.ownBlock = some g → w'.heap[g]? = w.heap[g]?) : w'.ownsRow B e size v n xs := by
  refine ⟨h.1, ?_⟩
  rcases h.2 with q | ⟨g, cap, cur, rfl, hb, hg, r⟩
  · exact Or.inl q
  · exact Or.inr ⟨g, cap, cur, rfl, hb, (k g rfl).trans hg, r⟩
theorem Own.same {w w' : World} : ∀ {lo hi : Nat} {x : It} {vb vi : Value}, Own w lo hi x vb vi → (∀ k, lo ≤ k → k < hi → w'.heap[k]? = w.heap[k]?) → Own w' lo hi x vb vi := by
  intro lo hi x vb vi h
  induction h with
  | str hb hlt ok hl => exact fun k => .str (own_same hb (fun g hg => k g (hb.lt g hg).1 (hlt g hg))) hlt ok hl
  | lst ys s t row hlt hl hn h1 h2 h3 h4 hb hr ih =>
    intro k
    refine .lst ys s t (own_same row (fun g hg => k g (row.lt g hg).1 (hlt g hg))) hlt hl hn h1 h2 h3 h4 hb (fun i x y hx hy => ih i x y hx hy (fun q q1 q2 => ?_))
    have hi := (List.getElem?_eq_some_iff.1 hx).1
    have := h1 i hi
    have := h3 i hi
    exact k q (by omega) (by omega)
theorem Own.wide {w : World} {lo hi lo' hi' : Nat} {x : It} {vb vi : Value} (h : Own w lo hi x vb vi) (h1 : lo' ≤ lo) (h2 : hi ≤ hi') : Own w lo' hi' x vb vi := by
  cases h with
  | str hb hlt ok hl => exact .str (own_rebase hb (fun g hg => by have := (hb.lt g hg).1; omega)) (fun q hq => by have := hlt q hq; omega) ok hl
  | lst ys s t row hlt hl hn h1' h2' h3 h4 hb hr =>
    exact .lst ys s t (own_rebase row (fun g hg => by have := (row.lt g hg).1; omega)) (fun q hq => by have := hlt q hq; omega) hl hn (fun i hi => by have := h1' i hi; omega) h2' (fun i hi => by have := h3 i hi; omega) h4 hb hr
theorem Own.keep {w w' : World} {lo hi : Nat} {x : It} {vb vi : Value} (h : Own w lo hi x vb vi) (k : Below w.heap.size w w') (hh : hi ≤ w.heap.size) : Own w' lo hi x vb vi := h.same (fun q _ q2 => k.block q (by omega))
theorem vb_of_own {w : World} {B n : Nat} {v : Value} {s : List Nat} (h : w.ownsRow B 5 1 v n (bv s)) (hn : s.length = n) (ok : ∀ x ∈ s, x < 256) (hl : n ≤ 140737488351232) : Vb w v s := by
  subst hn
  have st : Str w (fun _ => True) v s := ⟨own_base h, fun _ _ => trivial, ⟨by omega, ok⟩⟩
  obtain ⟨a, g, c, e, hc, hv, _⟩ := st.view
  refine ⟨a, g, 0, c, e, hv, hc, fun ha => ?_, hl⟩
  subst ha
  rcases h.2 with ⟨e2, _⟩ | ⟨g', cap, cur, e2, _⟩
  · rw [e] at e2
    injection e2
  · rw [e] at e2
    injection e2 with e2
    cases e2
theorem Own.lies {w : World} : ∀ {lo hi : Nat} {x : It} {vb vi : Value}, Own w lo hi x vb vi → Lies Vb w x vb vi := by
  intro lo hi x vb vi h
  induction h with
  | str hb hlt ok hl => exact Its.shut (xs := []) (a := none) (blk := 0) (off := 0) (c := 0) ⟨fun h => by simp at h, by simp, fun i x hx => by simp at hx⟩ (vb_of_own hb rfl ok (by omega))
  | @lst lo hi xs vi ys s t row hlt hl hn h1 h2 h3 h4 hb hr ih =>
    obtain ⟨a, c, e⟩ := own_slice row
    subst e
    have hA : 0 < xs.length → ∃ g, a = some ⟨g, 0, none⟩ := fun h0 => by
      rcases row.2 with ⟨_, q⟩ | ⟨g, cap, cur, e, _⟩
      · omega
      · injection e with e
        exact ⟨g, e⟩
    have hnil : Vb w (.slice none 0 0) [] := vb_of_own (B := 0) (n := 0) ⟨rfl, Or.inl ⟨rfl, rfl⟩⟩ rfl (by simp) (by omega)
    by_cases h0 : xs.length = 0
    · exact Its.shut (blk := 0) (off := 0) ⟨fun h => by omega, by omega, fun i x hx => by have := (List.getElem?_eq_some_iff.1 hx).1; omega⟩ hnil
    · obtain ⟨g, rfl⟩ := hA (by omega)
      refine Its.shut (blk := g) (off := 0) ⟨fun _ => rfl, by omega, fun i x hx => ?_⟩ hnil
      have hi := (List.getElem?_eq_some_iff.1 hx).1
      obtain ⟨y, hy⟩ : ∃ y, ys[i]? = some y := ⟨_, List.getElem?_eq_getElem (by omega)⟩
      obtain ⟨k1, k2, k3⟩ := fl_at hy
      have hL := ih i x y hx hy
      obtain ⟨a1, n1, c1, a2, n2, c2, e1, e2⟩ := hL.form
      have c1' := row.cells (g := g) rfl _ _ k1
      have c2' := row.cells (g := g) rfl _ _ k2
      have c3' := row.cells (g := g) rfl _ _ k3
      rw [add_flat] at c1' c2' c3'
      refine ⟨a1, n1, c1, a2, n2, c2, ?_, ?_, ?_, ?_⟩
      · rw [Nat.zero_add, c1', hb i x y hx hy]
      · rw [Nat.zero_add, c2', e1]
      · rw [Nat.zero_add, c3', e2]
      · rw [← e1, ← e2]; exact hL
theorem Own.zero (w : World) (lo hi : Nat) : Own w lo hi (.mk false [] []) (.slice none 0 0) (.slice none 0 0) := .str ⟨rfl, Or.inl ⟨rfl, rfl⟩⟩ (fun q hq => by cases hq) (by simp) (by simp)

set_option maxRecDepth 100000 in
set_option maxHeartbeats 1600000 in
theorem clone_any (w : World) (p : Addr) (b off c : Nat) (s : List Nat) (hv : Vw w (some p) b off s) (hl : s.length ≤ 140737488351232) :
    Calls Tryz.prog 36 #[.slice (some p) s.length c] w fun e w' => ∃ v, e = .returned v ∧ w'.ownsRow w.heap.size 5 1 v s.length (bv s) ∧ Below w.heap.size w w' ∧ ∀ q, v.ownBlock = some q → q < w'.heap.size := by
  have q22 : ∀ (w : World) (a : Option Addr) (n c n' c' : Nat), (binOp .eql 33 (.slice a n c) (.slice none n' c')).run Tryz.prog w = .ok (.bool a.isNone) w := fun w a n c n' c' => Lib.run_eql_slice_nil w _ _ a n c n' c' Tryz.underlying33
  have own0 := World.ownsRow_lit (base := w.heap.size) (e := 5) (size := 1) w #[] 0 (Nat.le_refl _) (by decide) rfl
  have v0 : Vw (w.alloc (.cells #[] 5)) (some p) b off s := hv.below (below_alloc w _)
  have HV0 : Hid (Vw (w.alloc (.cells #[] 5)) (some p) b off s) := v0
  clear hv v0
  go_enter Tryz.func36, Tryz.ntmps36
  go_wp2_with (refine wpList_append_bytes (by rfl) (.tmp 5) (.tmp 6) (by rfl) w.heap.size _ 0 [] (by rfl) own0 (some p) b off s.length c _ (by rfl) HV0.out (fun h => by cases h) (by omega) (by simp) ?_)
  intro v1 w1 own1 gr1 nn1
  have b1 : Below w.heap.size w w1 := (below_alloc w _).trans (grown_below gr1 own0 (Nat.le_refl _) (by simp))
  have own2 : w1.ownsRow w.heap.size 5 1 v1 s.length (bv s) := by rw [← vals_bv s]; simpa using own1
  have HZ : Hid (w1.ownsRow w.heap.size 5 1 v1 s.length (bv s) ∧ Below w.heap.size w w1) := ⟨own2, b1⟩
  clear own0 own1 own2 gr1 nn1 b1 HV0
  go_wp2_with fail
  go_ret
  exact ⟨v1, rfl, HZ.out.1, HZ.out.2, fun q hq => (HZ.out.1.lt q hq).2⟩
end Go.Proofs.YtepeolbbplodfaaGreatDoor

/-
  Results that lie in variables.
-/
namespace Go.Proofs.YtepeolbbplodfaaGreatDoor
open Go.RowKit

theorem info25s : (Tryz.prog.info? 191).map (·.size) = some 3 := by kernel_rfl
theorem range3 {w : World} {g o : Nat} {x y z : Value} (h0 : w.cell? ⟨g, o, none⟩ = some x) (h1 : w.cell? ⟨g, o + 1, none⟩ = some y) (h2 : w.cell? ⟨g, o + 2, none⟩ = some z) : w.rangeAt g o [x, y, z] := by
  intro j v hj
  match j, hj with
  | 0, hj => simp at hj; subst hj; exact h0
  | 1, hj => simp at hj; subst hj; exact h1
  | 2, hj => simp at hj; subst hj; exact h2
theorem loadVar25 {w : World} {g : Nat} {x y z : Value} (h0 : w.cell? ⟨g, 0, none⟩ = some x) (h1 : w.cell? ⟨g, 1, none⟩ = some y) (h2 : w.cell? ⟨g, 2, none⟩ = some z) : (loadVar 191 ⟨g, 0, none⟩).run Tryz.prog w = .ok (.agg #[x, y, z]) w :=
  run_loadVar_mid w g 0 191 [x, y, z] _ (range3 h0 h1 h2) Tryz.underlying191 rfl info25s
theorem res1 {fn : Func} {p : Tmp} {ty : TypeId} (h : fn.results = #[.cell p ty]) (tmps : Array Value) (w : World) (g : Nat) (v : Value)
    (hp : tmps.getD p undef = .pointer (some ⟨g, 0, none⟩)) (hl : (loadVar ty ⟨g, 0, none⟩).run Tryz.prog w = .ok v w) :
    (results fn tmps).run Tryz.prog w = .ok v w := by
  have hp' : tmps[p]?.getD undef = .pointer (some ⟨g, 0, none⟩) := by simpa using hp
  simp [results, h, hp', asAddr, hl]
theorem res2 {fn : Func} {p t : Tmp} {ty : TypeId} (h : fn.results = #[.cell p ty, .tmp t]) (tmps : Array Value) (w : World) (g : Nat) (v u : Value)
    (hp : tmps.getD p undef = .pointer (some ⟨g, 0, none⟩)) (ht : tmps.getD t undef = u) (hl : (loadVar ty ⟨g, 0, none⟩).run Tryz.prog w = .ok v w) :
    (results fn tmps).run Tryz.prog w = .ok (.tuple #[v, u]) w := by
  have hp' : tmps[p]?.getD undef = .pointer (some ⟨g, 0, none⟩) := by simpa using hp
  have ht' : tmps[t]?.getD undef = u := by simpa using ht
  simp [results, h, hp', ht', asAddr, hl]
theorem res3 {fn : Func} {p t q : Tmp} {ty : TypeId} (h : fn.results = #[.cell p ty, .tmp t, .tmp q]) (tmps : Array Value) (w : World) (g : Nat) (v u x : Value)
    (hp : tmps.getD p undef = .pointer (some ⟨g, 0, none⟩)) (ht : tmps.getD t undef = u) (hq : tmps.getD q undef = x) (hl : (loadVar ty ⟨g, 0, none⟩).run Tryz.prog w = .ok v w) :
    (results fn tmps).run Tryz.prog w = .ok (.tuple #[v, u, x]) w := by
  have hp' : tmps[p]?.getD undef = .pointer (some ⟨g, 0, none⟩) := by simpa using hp
  have ht' : tmps[t]?.getD undef = u := by simpa using ht
  have hq' : tmps[q]?.getD undef = x := by simpa using hq
  simp [results, h, hp', ht', hq', asAddr, hl]
/-- a struct of three stored -/
abbrev set3 (w : World) (g : Nat) (x y z : Value) : World := ((w.setCell ⟨g, 0, none⟩ x).setCell ⟨g, 1, none⟩ y).setCell ⟨g, 2, none⟩ z
theorem set3_cells {w : World} {g : Nat} {x y z x' y' z' : Value} (h0 : w.cell? ⟨g, 0, none⟩ = some x') (h1 : w.cell? ⟨g, 1, none⟩ = some y') (h2 : w.cell? ⟨g, 2, none⟩ = some z') :
    (set3 w g x y z).cell? ⟨g, 0, none⟩ = some x ∧ (set3 w g x y z).cell? ⟨g, 1, none⟩ = some y ∧ (set3 w g x y z).cell? ⟨g, 2, none⟩ = some z := by
  unfold set3
  refine ⟨?_, ?_, ?_⟩
  · rw [World.cell?_setCell_other _ _ _ _ (by simp), World.cell?_setCell_other _ _ _ _ (by simp), World.cell?_setCell_same _ _ _ h0]
  · rw [World.cell?_setCell_other _ _ _ _ (by simp), World.cell?_setCell_same _ _ _ ((World.cell?_setCell_other _ _ _ _ (by simp)).trans h1)]
  · rw [World.cell?_setCell_same _ _ _ ((World.cell?_setCell_other _ _ _ _ (by simp)).trans ((World.cell?_setCell_other _ _ _ _ (by simp)).trans h2))]
theorem set3_turn (w : World) (g : Nat) (x y z : Value) : Turn (fun i => i = g) w (set3 w g x y z) :=
  ((Turn.setCell (F := fun i => i = g) w ⟨g, 0, none⟩ x rfl).trans (Turn.setCell (F := fun i => i = g) _ ⟨g, 1, none⟩ y rfl) (fun _ q => Or.inl q)).trans (Turn.setCell (F := fun i => i = g) _ ⟨g, 2, none⟩ z rfl) (fun _ q => Or.inl q)
theorem set3_size (w : World) (g : Nat) (x y z : Value) : (set3 w g x y z).heap.size = w.heap.size := by simp
theorem Own.turn {F : Nat → Prop} {w w' : World} {lo hi : Nat} {x : It} {vb vi : Value} (h : Own w lo hi x vb vi) (k : Turn F w w') (hF : ∀ i, lo ≤ i → i < hi → ¬ F i) (hh : hi ≤ w.heap.size) : Own w' lo hi x vb vi := h.same (fun q q1 q2 => k.block q (by omega) (hF q q1 q2))
end Go.Proofs.YtepeolbbplodfaaGreatDoor

/-
  readItem.
-/
namespace Go.Proofs.YtepeolbbplodfaaGreatDoor
open Go.RowKit

/-- WHAT READING AN ITEM COMES TO -/
def ItemPost (s : List Nat) (d p e : Nat) (w : World) (r : Ending) (w' : World) : Prop :=
  Below w.heap.size w w' ∧ match rd s d p e with
    | .ok x z => ∃ vb vi, r = .returned (.tuple #[iv x.l vb vi, .int .i64 z]) ∧ Own w' w.heap.size w'.heap.size x vb vi
    | .bad q c => r = .panicked [flt q c]

set_option maxRecDepth 100000 in
set_option maxHeartbeats 1600000 in
theorem readItem_any (d : Nat) (hd : d ≤ 80) (KL : ∀ (w : World) (a : Option Addr) (b off e c p : Nat) (s : List Nat), Vp w a b off e c s → p < e → ¬ gd s p < 192 →
      Calls Tryz.prog 143 #[.slice a e c, .int .i64 p, .int .i64 ((80 - d : Nat) : Int)] w (ItemPost s d p e w))
    (w : World) (a : Option Addr) (b off e c p : Nat) (s : List Nat) (hv : Vp w a b off e c s) (hp : p ≤ e) :
    Calls Tryz.prog 133 #[.slice a e c, .int .i64 p, .int .i64 ((80 - d : Nat) : Int)] w (ItemPost s d p e w) := by
  have he : e ≤ 1048576 := by have := hv.len; have := hv.small; omega
  obtain ⟨dd, edd⟩ : ∃ dd, dd = 80 - d := ⟨_, rfl⟩
  rw [← edd] at KL ⊢
  have hdd : dd ≤ 80 := by omega
  by_cases h0 : p = e
  · have er : ∀ r w', ItemPost s d p e w r w' = (Below w.heap.size w w' ∧ r = .panicked [flt p 50]) := fun r w' => by unfold ItemPost; rw [rd_eq, if_pos h0]
    subst h0
    refine Calls.mono (R := fun r w' => r = .panicked [flt p 50] ∧ Below w.heap.size w w') ?_ (fun r w' h => by rw [er]; exact ⟨h.2, h.1⟩)
    clear er KL hv edd hd
    have KG := fun w => giveUp_any w p 50
    go_enter Tryz.func133, Tryz.ntmps133
    go_wp2_with (go_at_call 134; refine (KG _).mono ?_; rintro e w' ⟨rfl, rfl⟩)
    exact ⟨rfl, rfl, below_alloc _ _⟩
  · obtain ⟨rfl, c0, hx⟩ := hv.cell (i := p) (by omega)
    have hbw : b < w.heap.size := World.block_lt_of_cell? _ _ c0
    replace c0 := ((below_alloc w (.cells #[.bool false, .slice none 0 0, .slice none 0 0] 191)).cell (p := ⟨b, off + p, none⟩) hbw).trans c0
    by_cases h1 : gd s p < 128
    · have er : ∀ r w', ItemPost s d p e w r w' = (Below w.heap.size w w' ∧ ∃ vb vi, r = .returned (.tuple #[iv false vb vi, .int .i64 ((p + 1 : Nat) : Int)]) ∧ Own w' w.heap.size w'.heap.size (.mk false [gd s p] []) vb vi) := fun r w' => by unfold ItemPost; rw [rd_eq, if_neg h0, if_pos h1]; rfl
      generalize gd s p = x at *
      have HER : Hid (∀ r w', ItemPost s d p e w r w' = (Below w.heap.size w w' ∧ ∃ vb vi, r = .returned (.tuple #[iv false vb vi, .int .i64 ((p + 1 : Nat) : Int)]) ∧ Own w' w.heap.size w'.heap.size (.mk false [x] []) vb vi)) := er
      have i0 : ¬ (p : Int) = e := by omega
      have i1 : (x : Int) < 128 := by omega
      have i2 : p < e := by omega
      clear er KL hv edd hd
      go_enter Tryz.func133, Tryz.ntmps133
      go_wp2_with fail
      refine bodyPost_ret (res2 rfl _ _ w.heap.size _ _ rfl rfl (loadVar25 (x := .bool false) (y := .slice (some ⟨w.heap.size + 1, 0, none⟩) 1 1) (z := .slice none 0 0) (by simp) (by simp) (by simp))) rfl ?_
      rw [HER.out]
      refine ⟨(below_alloc _ _).alloc (by simp) _, _, _, rfl, .str ?_ ?_ (by simpa using hx) (by simp)⟩
      · have := World.ownsRow_lit (base := w.heap.size) (e := 5) (size := 1) (w.alloc (.cells #[.bool false, .slice (some ⟨w.heap.size + 1, 0, none⟩) 1 1, .slice none 0 0] 191)) #[.int .u8 x] 1 (by simp) (by decide) rfl
        simpa [bv] using this
      · intro q hq
        have : q = w.heap.size + 1 := (Option.some.inj hq).symm
        simp
        omega
    · have i0 : ¬ (p : Int) = e := by omega
      have i1 : ¬ ((gd s p : Nat) : Int) < 128 := by omega
      have i3 : p < e := by omega
      obtain ⟨w1, ew1⟩ : ∃ w1, w1 = w.alloc (.cells #[.bool false, .slice none 0 0, .slice none 0 0] 191) := ⟨_, rfl⟩
      have b1 : Below w.heap.size w w1 := by rw [ew1]; exact below_alloc _ _
      have s1 : w1.heap.size = w.heap.size + 1 := by rw [ew1]; simp
      have hv1 := hv.keep b1
      have HBX : Hid (∀ wr, Below w1.heap.size w1 wr → (wr.cell? ⟨w.heap.size, 0, none⟩ = some (.bool false) ∧ wr.cell? ⟨w.heap.size, 1, none⟩ = some (.slice none 0 0) ∧ wr.cell? ⟨w.heap.size, 2, none⟩ = some (.slice none 0 0)) ∧ ∀ j, wr.frozen? ⟨w.heap.size, j, none⟩ = false) := fun wr h => by
        rw [ew1] at h
        refine ⟨box_keep h, fun j => ?_⟩
        rw [h.frozen (p := ⟨w.heap.size, j, none⟩) (by simp)]
        simp
      have HB1 : Hid (Below w.heap.size w w1 ∧ w1.heap.size = w.heap.size + 1 ∧ w1 = w.alloc (.cells #[.bool false, .slice none 0 0, .slice none 0 0] 191)) := ⟨b1, s1, ew1⟩
      by_cases h2 : gd s p < 192
      · have i2 : ((gd s p : Nat) : Int) < 192 := by omega
        have K := readHead_any w1 _ _ _ _ _ p 128 (gd s p - 128) s hv1 i3 (by omega) (by omega)
        cases hh : rdHead s p e (gd s p - 128) with
        | bad q =>
          have HR : Hid (rd s d p e = .bad p q) := by
            show _ = _
            rw [rd_eq, if_neg h0, if_neg h1, if_pos h2, hh]
          rw [hh] at K
          generalize hgx : gd s p = x at *
          clear hgx KL hv hv1 edd hd s1 b1 hbw ew1 hh
          go_enter Tryz.func133, Tryz.ntmps133
          go_wp2_with fail
          rw [← HB1.out.2.2]
          refine K.mono ?_
          rintro r w2 ⟨rfl, rfl⟩
          go_wp2_with fail
          exact ⟨rfl, by unfold ItemPost; rw [HR.out]; exact ⟨HB1.out.1, rfl⟩⟩
        | ok A Z =>
          obtain ⟨k1, k2, k3, k4, -⟩ := rdHead_ok (base := 128) hv.ok hv.len i3 (by omega) (by omega) hh
          rw [hh] at K
          have hcl : (cut s A Z).length = Z - A := cut_len (by have := hv.len; omega)
          have hcap := hv.cap
          have sb := slice_both (some ⟨b, off, none⟩) e c A Z k2 (by omega)
          have hcut := hv1.cut (l := A) (z := Z) k2 k3
          have KA := alone_any w1 _ _ _ (c - A) _ hcut
          rw [hcl] at KA
          have ea : alone (cut s A Z) = decide (Z = A + 1 ∧ gd s A < 128) := by
            unfold alone
            rw [hcl]
            by_cases q : Z - A = 1
            · rw [cut_gd (by omega), Nat.add_zero, decide_eq_true q]
              simp [show Z = A + 1 by omega]
            · rw [decide_eq_false q]
              simp
              omega
          have hbh : ∃ pp, behind (some ⟨b, off, none⟩) c A = some pp := by
            unfold behind
            split
            · exact ⟨_, rfl⟩
            · exact ⟨_, rfl⟩
          obtain ⟨pp, ebh⟩ := hbh
          rw [ebh] at sb KA hcut
          rw [ea] at KA
          by_cases h4 : Z = A + 1 ∧ gd s A < 128
          · have HR : Hid (rd s d p e = .bad p 52) := by
              show _ = _
              rw [rd_eq, if_neg h0, if_neg h1, if_pos h2, hh]
              dsimp only
              rw [if_pos h4]
            rw [decide_eq_true h4] at KA
            have KG := fun w => giveUp_any w p 52
            generalize hgx : gd s p = x at *
            clear hgx KL hv hv1 edd hd s1 b1 hbw ew1 hh hcut ea ebh hcl h4
            go_enter Tryz.func133, Tryz.ntmps133
            go_wp2_with fail
            rw [← HB1.out.2.2]
            refine K.mono ?_
            rintro r w2 ⟨rfl, rfl⟩
            go_wp2_with (first | (go_at_call 145; refine KA.mono ?_; rintro e w' ⟨rfl, rfl⟩) | (go_at_call 134; refine (KG _).mono ?_; rintro e w' ⟨rfl, rfl⟩))
            exact ⟨rfl, by unfold ItemPost; rw [HR.out]; exact ⟨HB1.out.1, rfl⟩⟩
          · have HR : Hid (rd s d p e = .ok (.mk false (cut s A Z) []) Z) := by
              show _ = _
              rw [rd_eq, if_neg h0, if_neg h1, if_pos h2, hh]
              dsimp only
              rw [if_neg h4]
            rw [decide_eq_false h4] at KA
            have KC := clone_any w1 pp _ _ (c - A) _ hcut (by rw [hcl]; omega)
            have HO : Hid ((∀ x ∈ cut s A Z, x < 256) ∧ (cut s A Z).length = Z - A ∧ Z - A ≤ 1048576) := ⟨fun x hx => hv.ok x (cut_mem hx), hcl, by omega⟩
            rw [hcl] at KC
            generalize hgx : gd s p = x at *
            clear hgx KL hv hv1 edd hd s1 b1 hbw ew1 hh hcut ea ebh hcl h4
            go_enter Tryz.func133, Tryz.ntmps133
            go_wp2_with fail
            rw [← HB1.out.2.2]
            refine K.mono ?_
            rintro r w2 ⟨rfl, rfl⟩
            go_wp2_with (go_at_call 145; refine KA.mono ?_; rintro e w' ⟨rfl, rfl⟩)
            refine KC.mono ?_
            rintro r w3 ⟨v, rfl, own3, hb3, hlt3⟩
            obtain ⟨⟨x0, x1, x2⟩, xf⟩ := HBX.out w3 hb3
            have f0 := xf 0
            have f1 := xf 1
            have f2 := xf 2
            obtain ⟨av, cv, ev⟩ := own_slice own3
            subst ev
            have HZ : Hid (w3.ownsRow w'.heap.size 5 1 (.slice av (Z - A) cv) (Z - A) (bv (cut s A Z)) ∧ Below w'.heap.size w' w3 ∧ ∀ q, (Value.slice av (Z - A) cv).ownBlock = some q → q < w3.heap.size) := ⟨own3, hb3, hlt3⟩
            clear own3 hb3 hlt3 xf
            go_wp2_with fail
            refine bodyPost_ret (res2 rfl _ _ w.heap.size _ _ rfl rfl (loadVar25 (set3_cells x0 x1 x2).1 (set3_cells x0 x1 x2).2.1 (set3_cells x0 x1 x2).2.2)) rfl ?_
            have t3 := set3_turn w3 w.heap.size (.bool false) (.slice av (Z - A) cv) (.slice none 0 0)
            have z1 := HB1.out.2.1
            have z2 := HZ.out.2.1.size
            unfold ItemPost
            rw [HR.out]
            refine ⟨(ch HB1.out.1 HZ.out.2.1).trans (t3.below (fun i q => by omega) (by omega)), _, _, rfl, ?_⟩
            have ho : Own w3 w'.heap.size w3.heap.size (.mk false (cut s A Z) []) (.slice av (Z - A) cv) (.slice none 0 0) := .str (by rw [HO.out.2.1]; exact HZ.out.1) HZ.out.2.2 HO.out.1 (by rw [HO.out.2.1]; exact HO.out.2.2)
            exact (ho.turn t3 (fun i q1 q2 => by omega) (Nat.le_refl _)).wide (by omega) (by simp)
      · have i2 : ¬ ((gd s p : Nat) : Int) < 192 := by omega
        have K := KL w1 _ _ _ _ _ _ s hv1 i3 h2
        have er : ∀ r w', ItemPost s d p e w1 r w' → Below w1.heap.size w1 w' ∧ match rd s d p e with
            | .ok x z => ∃ vb vi, r = .returned (.tuple #[iv x.l vb vi, .int .i64 z]) ∧ Own w' w1.heap.size w'.heap.size x vb vi
            | .bad q c => r = .panicked [flt q c] := fun r w' h => h
        generalize hgx : gd s p = x at *
        clear hgx KL hv hv1 edd hd s1 b1 hbw ew1
        cases hrd : rd s d p e with
        | bad q cd =>
          have HR : Hid (rd s d p e = .bad q cd) := hrd
          rw [hrd] at er
          clear hrd
          go_enter Tryz.func133, Tryz.ntmps133
          go_wp2_with fail
          rw [← HB1.out.2.2]
          refine K.mono ?_
          intro r w2 hr
          obtain ⟨hb2, rfl⟩ := er r w2 hr
          have HZ : Hid (Below w.heap.size w w2) := ch HB1.out.1 hb2
          clear hr hb2
          go_wp2_with fail
          exact ⟨rfl, by unfold ItemPost; rw [HR.out]; exact ⟨HZ.out, rfl⟩⟩
        | ok y z =>
          have HR : Hid (rd s d p e = .ok y z) := hrd
          rw [hrd] at er
          clear hrd
          go_enter Tryz.func133, Tryz.ntmps133
          go_wp2_with fail
          rw [← HB1.out.2.2]
          refine K.mono ?_
          intro r w2 hr
          obtain ⟨hb2, vb, vi, rfl, ho⟩ := er r w2 hr
          obtain ⟨a1, n1, k1, a2, n2, k2, rfl, rfl⟩ := ho.lies.form
          obtain ⟨⟨x0, x1, x2⟩, xf⟩ := HBX.out w2 hb2
          have f0 := xf 0
          have f1 := xf 1
          have f2 := xf 2
          have HZ : Hid (Below w1.heap.size w1 w2 ∧ Own w2 w1.heap.size w2.heap.size y (.slice a1 n1 k1) (.slice a2 n2 k2)) := ⟨hb2, ho⟩
          clear hr hb2 ho xf
          go_wp2_with fail
          refine bodyPost_ret (res2 rfl _ _ w.heap.size _ _ rfl rfl (loadVar25 (set3_cells x0 x1 x2).1 (set3_cells x0 x1 x2).2.1 (set3_cells x0 x1 x2).2.2)) rfl ?_
          have t3 := set3_turn w2 w.heap.size (.bool y.l) (.slice a1 n1 k1) (.slice a2 n2 k2)
          have z1 := HB1.out.2.1
          have z2 := HZ.out.1.size
          unfold ItemPost
          rw [HR.out]
          refine ⟨(ch HB1.out.1 HZ.out.1).trans (t3.below (fun i q => by omega) (by omega)), _, _, rfl, ?_⟩
          exact (HZ.out.2.turn t3 (fun i q1 q2 => by omega) (Nat.le_refl _)).wide (by omega) (by simp)
end Go.Proofs.YtepeolbbplodfaaGreatDoor

/-
  readList.
-/
namespace Go.Proofs.YtepeolbbplodfaaGreatDoor
open Go.RowKit

theorem infoIt : (Tryz.prog.info? 191).map (fun i => (i.zero, i.size, i.bytes)) = some (some (.agg #[.bool false, .slice none 0 0, .slice none 0 0]), 3, 56) := by kernel_rfl
/-- a block of three cells -/
abbrev Bx (w : World) (g : Nat) (t : TypeId) (x y z : Value) : Prop := w.heap[g]? = some (.cells #[x, y, z] t (0, 0))
theorem Bx.cells {w : World} {g : Nat} {t : TypeId} {x y z : Value} (h : Bx w g t x y z) : w.cell? ⟨g, 0, none⟩ = some x ∧ w.cell? ⟨g, 1, none⟩ = some y ∧ w.cell? ⟨g, 2, none⟩ = some z ∧ ∀ j, w.frozen? ⟨g, j, none⟩ = false := by
  have q : ∀ j, w.cell? ⟨g, j, none⟩ = #[x, y, z][j]? := fun j => cell_of_row _ _ _ _ _ _ h
  have r : w.rowIs g t 3 (fun i => (#[x, y, z] : Array Value).getD i x) := ⟨_, h, rfl, fun i hi => by
    show _ = some ((#[x, y, z] : Array Value).getD i x)
    rw [Array.getD_eq_getD_getElem?, Array.getElem?_eq_getElem (by simpa using hi)]
    rfl⟩
  exact ⟨q 0, q 1, q 2, fun j => r.frozen j⟩
theorem Bx.lt {w : World} {g : Nat} {t : TypeId} {x y z : Value} (h : Bx w g t x y z) : g < w.heap.size := (Array.getElem?_eq_some_iff.1 h).1
theorem Bx.keep {w w' : World} {g : Nat} {t : TypeId} {x y z : Value} (h : Bx w g t x y z) (k : w'.heap[g]? = w.heap[g]?) : Bx w' g t x y z := k.trans h
theorem Bx.set2 {w : World} {g : Nat} {t : TypeId} {x y z z' : Value} (h : Bx w g t x y z) : Bx (w.setCell ⟨g, 2, none⟩ z') g t x y z' := by
  have hl := h.lt
  simp only [Bx, World.setCell, Array.getElem?_modify, if_true] at h ⊢
  rw [h]
  rfl
theorem Bx.set3 {w : World} {g : Nat} {t : TypeId} {x y z x' y' z' : Value} (h : Bx w g t x y z) : Bx (set3 w g x' y' z') g t x' y' z' := by
  have hl := h.lt
  simp only [Bx, Go.Proofs.YtepeolbbplodfaaGreatDoor.set3, World.setCell, Array.getElem?_modify, if_true] at h ⊢
  rw [h]
  rfl

/-- THE LIST AS FAR AS IT IS READ: v its items' slice, in the box behind the result's. -/
structure Rl (w wr : World) (v : Value) (xs : List It) (ys : List (Bool × Value × Value)) (s t : Nat → Nat) : Prop where
  own : wr.ownsRow (w.heap.size + 2) 191 3 v xs.length (fl ys)
  len : ys.length = xs.length
  h1 : ∀ i, i < xs.length → w.heap.size + 2 ≤ s i
  h2 : ∀ i, i + 1 < xs.length → t i ≤ s (i + 1)
  h3 : ∀ i, i < xs.length → t i ≤ wr.heap.size
  h4 : ∀ i, i < xs.length → s i ≤ t i
  hb : ∀ (i : Nat) (x : It) (y : Bool × Value × Value), xs[i]? = some x → ys[i]? = some y → y.1 = x.l
  hr : ∀ (i : Nat) (x : It) (y : Bool × Value × Value), xs[i]? = some x → ys[i]? = some y → Own wr (s i) (t i) x y.2.1 y.2.2
  ap : ∀ q, v.ownBlock = some q → ∀ i, i < xs.length → q < s i ∨ t i ≤ q
  below : Below w.heap.size w wr
  res : Bx wr w.heap.size 191 (.bool false) (.slice none 0 0) (.slice none 0 0)
  box : Bx wr (w.heap.size + 1) 191 (.bool true) (.slice none 0 0) v
theorem Rl.size {w wr : World} {v : Value} {xs : List It} {ys : List (Bool × Value × Value)} {s t : Nat → Nat} (h : Rl w wr v xs ys s t) : w.heap.size + 2 ≤ wr.heap.size := by have := h.box.lt; omega
theorem Rl.start {w w2 : World} (hb : Below w.heap.size w w2) (h1 : Bx w2 w.heap.size 191 (.bool false) (.slice none 0 0) (.slice none 0 0)) (h2 : Bx w2 (w.heap.size + 1) 191 (.bool true) (.slice none 0 0) (.slice none 0 0)) :
    Rl w w2 (.slice none 0 0) [] [] (fun _ => 0) (fun _ => 0) :=
  ⟨⟨rfl, Or.inl ⟨rfl, rfl⟩⟩, rfl, fun i hi => by simp at hi, fun i hi => by simp at hi, fun i hi => by simp at hi, fun i hi => by simp at hi, fun i x y hx => by simp at hx, fun i x y hx => by simp at hx, fun q hq => (by cases hq), hb, h1, h2⟩
theorem Rl.next {w wr w2 w5 : World} {v v' vb vi : Value} {xs : List It} {ys : List (Bool × Value × Value)} {s t : Nat → Nat} {y : It} {o o' : Obj} (h : Rl w wr v xs ys s t)
    (b2 : Below (wr.alloc o).heap.size (wr.alloc o) w2) (ho : Own w2 (wr.alloc o).heap.size w2.heap.size y vb vi)
    (own' : w5.ownsRow (w.heap.size + 2) 191 3 v' (xs.length + 1) (fl ys ++ [.bool y.l, vb, vi])) (gr : ((set3 w2 wr.heap.size (.bool y.l) vb vi).alloc o').grownBy w5 v.ownBlock)
    (hg : ∀ g, v'.ownBlock = some g → v.ownBlock = some g ∨ w2.heap.size ≤ g) :
    Rl w (w5.setCell ⟨w.heap.size + 1, 2, none⟩ v') v' (xs ++ [y]) (ys ++ [(y.l, vb, vi)]) (fun i => if i = xs.length then wr.heap.size + 1 else s i) (fun i => if i = xs.length then w2.heap.size else t i) := by
  have z0 := h.size
  have s1 : (wr.alloc o).heap.size = wr.heap.size + 1 := by simp
  rw [s1] at b2 ho
  have z2 := b2.size
  rw [s1] at z2
  have z5 : w2.heap.size + 1 ≤ w5.heap.size := by have := gr.size; simpa using this
  have vlt : ∀ q, v.ownBlock = some q → w.heap.size + 2 ≤ q ∧ q < wr.heap.size := fun q hq => h.own.lt q hq
  -- what of the heap stays
  have key : ∀ k, k < w2.heap.size → k ≠ wr.heap.size → v.ownBlock ≠ some k → k ≠ w.heap.size + 1 → (w5.setCell ⟨w.heap.size + 1, 2, none⟩ v').heap[k]? = w2.heap[k]? := fun k k1 k2 k3 k4 => by
    rw [Below.heap_setCell _ _ _ _ (fun e => k4 e), gr.block k (by simp; omega) (fun e => k3 e.symm)]
    have e1 : ((set3 w2 wr.heap.size (.bool y.l) vb vi).alloc o').heap[k]? = (set3 w2 wr.heap.size (.bool y.l) vb vi).heap[k]? := heap_alloc_old _ _ (by simp; omega)
    rw [e1]
    exact (set3_turn w2 wr.heap.size (.bool y.l) vb vi).block k k1 k2
  have old : ∀ k, k < wr.heap.size → w2.heap[k]? = wr.heap[k]? := fun k hk => by
    rw [b2.block k (by omega)]
    exact heap_alloc_old _ _ hk
  have n1 : (xs ++ [y]).length = xs.length + 1 := by simp
  refine ⟨?_, by simp [h.len], fun i hi => ?_, fun i hi => ?_, fun i hi => ?_, fun i hi => ?_, fun i x q hx hq => ?_, fun i x q hx hq => ?_, fun q hq i hi => ?_, ?_, ?_, ?_⟩
  · rw [n1, fl_app]
    refine own_same own' (fun g hg' => ?_)
    exact Below.heap_setCell _ _ _ _ (fun e => by have := (own'.lt g hg').1; simp at e; omega)
  · rw [n1] at hi
    by_cases e : i = xs.length
    · simp only [if_pos e]; omega
    · simp only [if_neg e]; exact h.h1 i (by omega)
  · rw [n1] at hi
    by_cases e : i + 1 = xs.length
    · simp only [if_pos e, if_neg (show ¬ i = xs.length by omega)]
      have := h.h3 i (by omega)
      omega
    · simp only [if_neg e, if_neg (show ¬ i = xs.length by omega)]
      exact h.h2 i (by omega)
  · rw [n1] at hi
    have e5 : (w5.setCell ⟨w.heap.size + 1, 2, none⟩ v').heap.size = w5.heap.size := by simp
    rw [e5]
    by_cases e : i = xs.length
    · simp only [if_pos e]; omega
    · simp only [if_neg e]
      have := h.h3 i (by omega)
      omega
  · rw [n1] at hi
    by_cases e : i = xs.length
    · simp only [if_pos e]; omega
    · simp only [if_neg e]; exact h.h4 i (by omega)
  · by_cases e : i < xs.length
    · rw [List.getElem?_append_left e] at hx
      rw [List.getElem?_append_left (by have := h.len; omega)] at hq
      exact h.hb i x q hx hq
    · have hi := (List.getElem?_eq_some_iff.1 hx).1
      rw [n1] at hi
      have e2 : i = xs.length := by omega
      subst e2
      rw [List.getElem?_append_right (by omega)] at hx
      rw [List.getElem?_append_right (by have := h.len; omega)] at hq
      simp at hx
      simp [h.len] at hq
      subst hx
      subst hq
      rfl
  · by_cases e : i < xs.length
    · rw [List.getElem?_append_left e] at hx
      rw [List.getElem?_append_left (by have := h.len; omega)] at hq
      simp only [if_neg (show ¬ i = xs.length by omega)]
      have a1 := h.h1 i e
      have a3 := h.h3 i e
      refine (h.hr i x q hx hq).same (fun k k1 k2 => ?_)
      rw [key k (by omega) (by omega) (fun e2 => by have := h.ap k e2 i e; omega) (by omega), old k (by omega)]
    · have hi := (List.getElem?_eq_some_iff.1 hx).1
      rw [n1] at hi
      have e2 : i = xs.length := by omega
      subst e2
      rw [List.getElem?_append_right (by omega)] at hx
      rw [List.getElem?_append_right (by have := h.len; omega)] at hq
      simp at hx
      simp [h.len] at hq
      subst hx
      subst hq
      simp only [if_true]
      exact ho.same (fun k k1 k2 => key k k2 (by omega) (fun e2 => by have := (vlt k e2).2; omega) (by omega))
  · rw [n1] at hi
    rcases hg q hq with hq' | hq'
    · have := vlt q hq'
      by_cases e : i = xs.length
      · simp only [if_pos e]; omega
      · simp only [if_neg e]; exact h.ap q hq' i (by omega)
    · by_cases e : i = xs.length
      · simp only [if_pos e]; omega
      · simp only [if_neg e]
        have := h.h3 i (by omega)
        omega
  · refine ⟨?_, ?_, ?_, ?_, fun k hk => ?_⟩
    · exact gr.os.trans (b2.os.trans h.below.os)
    · exact gr.tape.trans (b2.tape.trans h.below.tape)
    · exact gr.output.trans (b2.output.trans h.below.output)
    · have : (w5.setCell ⟨w.heap.size + 1, 2, none⟩ v').heap.size = w5.heap.size := by simp
      omega
    · rw [key k (by omega) (by omega) (fun e2 => by have := (vlt k e2).1; omega) (by omega), old k (by omega)]
      exact h.below.block k hk
  · refine h.res.keep ?_
    rw [key _ (by omega) (by omega) (fun e2 => by have := (vlt _ e2).1; omega) (by omega), old _ (by omega)]
  · have : Bx w5 (w.heap.size + 1) 191 (.bool true) (.slice none 0 0) v := by
      refine h.box.keep ?_
      rw [gr.block _ (by simp; omega) (fun e2 => by have := (vlt _ e2.symm).1; omega)]
      have e1 : ((set3 w2 wr.heap.size (.bool y.l) vb vi).alloc o').heap[w.heap.size + 1]? = (set3 w2 wr.heap.size (.bool y.l) vb vi).heap[w.heap.size + 1]? := heap_alloc_old _ _ (by simp; omega)
      rw [e1, (set3_turn w2 wr.heap.size (.bool y.l) vb vi).block _ (by omega) (by omega), old _ (by omega)]
    exact this.set2
end Go.Proofs.YtepeolbbplodfaaGreatDoor
