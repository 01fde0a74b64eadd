import Derived.Test.YtledfigfokoiiaaRlq
/-
  An item that a call has made, of any shape; ext: what stands behind each string.
-/
namespace Go.Proofs.Ytledfigfokoiiaa
open Go.RowKit
/-- bytes in a block of their own, ext behind them -/
def Sg (ext : List Nat) (w : World) (lo : Nat) (v : Value) (b : List Nat) : Prop := ∃ a c, v = .slice a b.length c ∧ w.ownsRow lo 5 1 (.slice a (b ++ ext).length c) (b ++ ext).length (bv (b ++ ext)) ∧ (∀ x ∈ b ++ ext, x < 256) ∧ b.length ≤ 140737488351232
theorem Sg.block {ext : List Nat} {w : World} {lo : Nat} {v : Value} {b : List Nat} (h : Sg ext w lo v b) {q : Nat} (hq : v.ownBlock = some q) : lo ≤ q ∧ q < w.heap.size ∧ ∃ cur, w.heap[q]? = some (.cells cur 5 (0, 0)) := by
  obtain ⟨a, c, rfl, ho, -, -⟩ := h
  have hq' : (Value.slice a (b ++ ext).length c).ownBlock = some q := by
    cases a with
    | none => cases hq
    | some p => exact hq
  exact ⟨(ho.lt q hq').1, (ho.lt q hq').2, own_block ho hq'⟩
theorem Sg.same {ext : List Nat} {w w' : World} {lo : Nat} {v : Value} {b : List Nat} (h : Sg ext w lo v b) (k : ∀ q, v.ownBlock = some q → w'.heap[q]? = w.heap[q]?) : Sg ext w' lo v b := by
  obtain ⟨a, c, rfl, ho, r⟩ := h
  refine ⟨a, c, rfl, own_same ho (fun g hg => k g ?_), r⟩
  cases a with
  | none => cases hg
  | some p => exact hg
theorem Sg.base {ext : List Nat} {w : World} {lo lo' : Nat} {v : Value} {b : List Nat} (h : Sg ext w lo v b) (k : lo' ≤ lo) : Sg ext w lo' v b := by
  obtain ⟨a, c, rfl, ho, r⟩ := h
  exact ⟨a, c, rfl, own_rebase ho (fun g hg => by have := (ho.lt g hg).1; omega), r⟩
theorem Sg.vb {ext : List Nat} {w : World} {lo : Nat} {v : Value} {b : List Nat} (h : Sg ext w lo v b) : Vb w v b := by
  obtain ⟨a, c, rfl, ho, hx, hl⟩ := h
  have le : (b ++ ext).length = b.length + ext.length := List.length_append
  refine ⟨a, (Value.slice a (b ++ ext).length c).ownBlock.getD 0, 0, c, rfl, ⟨fun h0 => ?_, fun i hi => ?_, fun i hi => ?_, by omega⟩, ?_, fun ha => ?_, hl⟩
  · rcases ho.2 with ⟨e, q⟩ | ⟨g, cap, cur, e, _⟩
    · omega
    · injection e with e
      subst e
      rfl
  · rcases ho.2 with ⟨e, q⟩ | ⟨g, cap, cur, e, _⟩
    · omega
    · injection e with e _ _
      subst e
      have := ho.cells (g := g) rfl i _ (bv_at (by omega))
      rw [add_flat, gd_app_l hi] at this
      rw [Nat.zero_add]
      exact this
  · have := gd_lt (s := b) (fun x hx' => hx x (by simp [hx'])) i
    omega
  · rcases ho.2 with ⟨e, q⟩ | ⟨g, cap, cur, e, _, _, h1, _⟩
    · injection e with _ _ e
      omega
    · injection e with _ _ e
      omega
  · subst ha
    rcases ho.2 with ⟨e, q⟩ | ⟨g, cap, cur, e, _⟩
    · injection e
    · injection e with e
      cases e
theorem sg_of_own {w : World} {B : Nat} {v : Value} {b : List Nat} (h : w.ownsRow B 5 1 v b.length (bv b)) (hx : ∀ x ∈ b, x < 256) (hl : b.length ≤ 140737488351232) : Sg [] w B v b := by
  obtain ⟨a, c, rfl⟩ := own_slice h
  exact ⟨a, c, rfl, by simpa using h, by simpa using hx, hl⟩
/-- MADE BY A CALL: all its blocks from lo on, below hi. -/
inductive Og (T : TypeId) (ext : List Nat) (w : World) : Nat → Nat → It → Value → Value → Prop
  | mk {lo hi : Nat} {l : Bool} {b : List Nat} {xs : List It} {vb vi : Value} (ys : List (Bool × Value × Value)) (s t : Nat → Nat) (hs : Sg ext w lo vb b) (hslt : ∀ q, vb.ownBlock = some q → q < hi) (row : w.ownsRow lo T 3 vi xs.length (fl ys)) (hlt : ∀ q, vi.ownBlock = some q → q < hi) (hl : ys.length = xs.length) (hn : 56 * xs.length ≤ 140737488351232)
      (h1 : ∀ i, i < xs.length → lo ≤ s i) (h3 : ∀ i, i < xs.length → t i ≤ hi) (hb : ∀ (i : Nat) (x : It) (y : Bool × Value × Value), xs[i]? = some x → ys[i]? = some y → y.1 = x.l)
      (hr : ∀ (i : Nat) (x : It) (y : Bool × Value × Value), xs[i]? = some x → ys[i]? = some y → Og T ext w (s i) (t i) x y.2.1 y.2.2) : Og T ext w lo hi (.mk l b xs) vb vi
theorem Og.same {T : TypeId} {ext : List Nat} {w w' : World} : ∀ {lo hi : Nat} {x : It} {vb vi : Value}, Og T ext w lo hi x vb vi → (∀ k, lo ≤ k → k < hi → w'.heap[k]? = w.heap[k]?) → Og T ext w' lo hi x vb vi := by
  intro lo hi x vb vi h
  induction h with
  | mk ys s t hs hslt row hlt hl hn h1 h3 hb hr ih =>
    intro k
    refine .mk ys s t (hs.same (fun q hq => k q (hs.block hq).1 (hslt q hq))) hslt (own_same row (fun g hg => k g (row.lt g hg).1 (hlt g hg))) hlt hl hn h1 h3 hb (fun i x y hx hy => ih i x y hx hy (fun q q1 q2 => ?_))
    have hi := (List.getElem?_eq_some_iff.1 hx).1
    have := h1 i hi
    have := h3 i hi
    exact k q (by omega) (by omega)
theorem Og.wide {T : TypeId} {ext : List Nat} {w : World} {lo hi lo' hi' : Nat} {x : It} {vb vi : Value} (h : Og T ext w lo hi x vb vi) (h1 : lo' ≤ lo) (h2 : hi ≤ hi') : Og T ext w lo' hi' x vb vi := by
  cases h with
  | mk ys s t hs hslt row hlt hl hn h1' h3 hb hr =>
    exact .mk ys s t (hs.base h1) (fun q hq => by have := hslt q hq; omega) (own_rebase row (fun g hg => by have := (row.lt g hg).1; omega)) (fun q hq => by have := hlt q hq; omega) hl hn (fun i hi => by have := h1' i hi; omega) (fun i hi => by have := h3 i hi; omega) hb hr
theorem Og.keep {T : TypeId} {ext : List Nat} {w w' : World} {lo hi : Nat} {x : It} {vb vi : Value} (h : Og T ext w lo hi x vb vi) (k : Below w.heap.size w w') (hh : hi ≤ w.heap.size) : Og T ext w' lo hi x vb vi := h.same (fun q _ q2 => k.block q (by omega))
/-- the bytes, with what stands behind them -/
def Sx (ext : List Nat) (w : World) (v : Value) (b : List Nat) : Prop := ∃ lo, Sg ext w lo v b
instance (ext : List Nat) : Rel (Sx ext) where
  keep := fun ⟨lo, h⟩ k => ⟨lo, h.same (fun q hq => k.block q (h.block hq).2.1)⟩
  form := fun ⟨lo, h⟩ => by
    obtain ⟨a, c, e, _⟩ := h
    exact ⟨a, c, e⟩
theorem Og.marks {T : TypeId} {ext : List Nat} {w : World} : ∀ {lo hi : Nat} {x : It} {vb vi : Value}, Og T ext w lo hi x vb vi → Lies (Sx ext) w x vb vi := by
  intro lo hi x vb vi h
  induction h with
  | @mk lo hi l b xs vb vi ys s t hs hslt row hlt hl hn h1 h3 hb hr ih =>
    obtain ⟨a, c, e⟩ := own_slice row
    subst e
    have hA : 0 < xs.length → ∃ g, a = some ⟨g, 0, none⟩ := fun h0 => by
      rcases row.2 with ⟨_, q⟩ | ⟨g, cap, cur, e, _⟩
      · omega
      · injection e with e
        exact ⟨g, e⟩
    by_cases h0 : xs.length = 0
    · exact Its.shut (blk := 0) (off := 0) ⟨fun h => by omega, by omega, fun i x hx => by have := (List.getElem?_eq_some_iff.1 hx).1; omega⟩ ⟨lo, hs⟩
    · obtain ⟨g, rfl⟩ := hA (by omega)
      refine Its.shut (blk := g) (off := 0) ⟨fun _ => rfl, by omega, fun i x hx => ?_⟩ ⟨lo, hs⟩
      have hi := (List.getElem?_eq_some_iff.1 hx).1
      obtain ⟨y, hy⟩ : ∃ y, ys[i]? = some y := ⟨_, List.getElem?_eq_getElem (by omega)⟩
      obtain ⟨k1, k2, k3⟩ := fl_at hy
      have hL := ih i x y hx hy
      obtain ⟨a1, n1, c1, a2, n2, c2, e1, e2⟩ := hL.form
      have c1' := row.cells (g := g) rfl _ _ k1
      have c2' := row.cells (g := g) rfl _ _ k2
      have c3' := row.cells (g := g) rfl _ _ k3
      rw [add_flat] at c1' c2' c3'
      refine ⟨a1, n1, c1, a2, n2, c2, ?_, ?_, ?_, ?_⟩
      · rw [Nat.zero_add, c1', hb i x y hx hy]
      · rw [Nat.zero_add, c2', e1]
      · rw [Nat.zero_add, c3', e2]
      · rw [← e1, ← e2]; exact hL
theorem Og.lies {T : TypeId} {ext : List Nat} {w : World} {lo hi : Nat} {x : It} {vb vi : Value} (h : Og T ext w lo hi x vb vi) : Lies Vb w x vb vi := h.marks.imp (fun _ _ ⟨_, q⟩ => q.vb) (fun _ _ => rfl)
/-- AN ITEM BEING MADE, in the box q: v its items so far; from L on lies what the loop has made. -/
structure Gl (T : TypeId) (ext : List Nat) (L q : Nat) (wr : World) (l : Bool) (vb v : Value) (xs : List It) (ys : List (Bool × Value × Value)) (s t : Nat → Nat) : Prop where
  own : wr.ownsRow L T 3 v xs.length (fl ys)
  len : ys.length = xs.length
  h1 : ∀ i, i < xs.length → L ≤ s i
  h3 : ∀ i, i < xs.length → t i ≤ wr.heap.size
  hb : ∀ (i : Nat) (x : It) (y : Bool × Value × Value), xs[i]? = some x → ys[i]? = some y → y.1 = x.l
  hr : ∀ (i : Nat) (x : It) (y : Bool × Value × Value), xs[i]? = some x → ys[i]? = some y → Og T ext wr (s i) (t i) x y.2.1 y.2.2
  ap : ∀ g, v.ownBlock = some g → ∀ i, i < xs.length → g < s i ∨ t i ≤ g
  box : Bx wr q T (.bool l) vb v
  lq : q < L
  ls : L ≤ wr.heap.size
theorem Gl.start {T : TypeId} {ext : List Nat} {L q : Nat} {wr : World} {l : Bool} {vb : Value} (h : Bx wr q T (.bool l) vb (.slice none 0 0)) (hq : q < L) (hL : L ≤ wr.heap.size) : Gl T ext L q wr l vb (.slice none 0 0) [] [] (fun _ => 0) (fun _ => 0) :=
  ⟨⟨rfl, Or.inl ⟨rfl, rfl⟩⟩, rfl, fun i hi => by simp at hi, fun i hi => by simp at hi, fun i x y hx => by simp at hx, fun i x y hx => by simp at hx, fun q hq => (by cases hq), h, hq, hL⟩
theorem Gl.next {T : TypeId} {ext : List Nat} {L q : Nat} {wr w2 w5 : World} {l : Bool} {vb v v' vy vz : Value} {xs : List It} {ys : List (Bool × Value × Value)} {s t : Nat → Nat} {y : It} {o' : Obj} {S E : Nat} (h : Gl T ext L q wr l vb v xs ys s t)
    (b2 : Below wr.heap.size wr w2) (ho : Og T ext w2 S E y vy vz) (hS : wr.heap.size ≤ S) (hE : E ≤ w2.heap.size)
    (own' : w5.ownsRow L T 3 v' (xs.length + 1) (fl ys ++ [.bool y.l, vy, vz])) (gr : (w2.alloc o').grownBy w5 v.ownBlock)
    (hg : ∀ g, v'.ownBlock = some g → v.ownBlock = some g ∨ w2.heap.size ≤ g) :
    (∃ s' t', Gl T ext L q (w5.setCell ⟨q, 2, none⟩ v') l vb v' (xs ++ [y]) (ys ++ [(y.l, vy, vz)]) s' t') ∧ (∀ k, k < wr.heap.size → k ≠ q → v.ownBlock ≠ some k → (w5.setCell ⟨q, 2, none⟩ v').heap[k]? = wr.heap[k]?) ∧ wr.heap.size ≤ (w5.setCell ⟨q, 2, none⟩ v').heap.size := by
  have z0 := h.ls
  have z1 := h.lq
  have z2 := b2.size
  have z5 : w2.heap.size + 1 ≤ w5.heap.size := by have := gr.size; simpa using this
  have vlt : ∀ k, v.ownBlock = some k → L ≤ k ∧ k < wr.heap.size := fun k hk => h.own.lt k hk
  have key : ∀ k, k < w2.heap.size → v.ownBlock ≠ some k → k ≠ q → (w5.setCell ⟨q, 2, none⟩ v').heap[k]? = w2.heap[k]? := fun k k1 k3 k4 => by
    rw [Below.heap_setCell _ _ _ _ (fun e => k4 e), gr.block k (by simp; omega) (fun e => k3 e.symm)]
    exact heap_alloc_old _ _ k1
  have old : ∀ k, k < wr.heap.size → w2.heap[k]? = wr.heap[k]? := fun k hk => b2.block k hk
  have n1 : (xs ++ [y]).length = xs.length + 1 := by simp
  have e5 : (w5.setCell ⟨q, 2, none⟩ v').heap.size = w5.heap.size := by simp
  refine ⟨⟨fun i => if i = xs.length then S else s i, fun i => if i = xs.length then E else t i, ?_, by simp [h.len], fun i hi => ?_, fun i hi => ?_, fun i x p hx hp => ?_, fun i x p hx hp => ?_, fun g hg' i hi => ?_, ?_, z1, by omega⟩, fun k k1 k2 k3 => (key k (by omega) k3 k2).trans (old k k1), by omega⟩
  · rw [n1, fl_app]
    refine own_same own' (fun g hg' => ?_)
    exact Below.heap_setCell _ _ _ _ (fun e => by have := (own'.lt g hg').1; simp at e; omega)
  · rw [n1] at hi
    by_cases e : i = xs.length
    · simp only [if_pos e]; omega
    · simp only [if_neg e]; exact h.h1 i (by omega)
  · rw [n1] at hi
    rw [e5]
    by_cases e : i = xs.length
    · simp only [if_pos e]; omega
    · simp only [if_neg e]
      have := h.h3 i (by omega)
      omega
  · by_cases e : i < xs.length
    · rw [List.getElem?_append_left e] at hx
      rw [List.getElem?_append_left (by have := h.len; omega)] at hp
      exact h.hb i x p hx hp
    · have hi := (List.getElem?_eq_some_iff.1 hx).1
      rw [n1] at hi
      have e2 : i = xs.length := by omega
      subst e2
      rw [List.getElem?_append_right (by omega)] at hx
      rw [List.getElem?_append_right (by have := h.len; omega)] at hp
      simp at hx
      simp [h.len] at hp
      subst hx
      subst hp
      rfl
  · by_cases e : i < xs.length
    · rw [List.getElem?_append_left e] at hx
      rw [List.getElem?_append_left (by have := h.len; omega)] at hp
      simp only [if_neg (show ¬ i = xs.length by omega)]
      have a1 := h.h1 i e
      have a3 := h.h3 i e
      refine (h.hr i x p hx hp).same (fun k k1 k2 => ?_)
      rw [key k (by omega) (fun e2 => by have := h.ap k e2 i e; omega) (by omega), old k (by omega)]
    · have hi := (List.getElem?_eq_some_iff.1 hx).1
      rw [n1] at hi
      have e2 : i = xs.length := by omega
      subst e2
      rw [List.getElem?_append_right (by omega)] at hx
      rw [List.getElem?_append_right (by have := h.len; omega)] at hp
      simp at hx
      simp [h.len] at hp
      subst hx
      subst hp
      simp only [if_true]
      exact ho.same (fun k k1 k2 => key k (by omega) (fun e2 => by have := (vlt k e2).2; omega) (by omega))
  · rw [n1] at hi
    rcases hg g hg' with hq' | hq'
    · have := vlt g hq'
      by_cases e : i = xs.length
      · simp only [if_pos e]; omega
      · simp only [if_neg e]; exact h.ap g hq' i (by omega)
    · by_cases e : i = xs.length
      · simp only [if_pos e]; omega
      · simp only [if_neg e]
        have := h.h3 i (by omega)
        omega
  · have : Bx w5 q T (.bool l) vb v := by
      refine h.box.keep ?_
      rw [gr.block _ (by simp; omega) (fun e2 => by have := (vlt _ e2.symm).1; omega)]
      rw [heap_alloc_old _ _ (by omega)]
      exact old q (by omega)
    exact this.set2
/-- the item is made -/
theorem Gl.done {T : TypeId} {ext : List Nat} {L q lo : Nat} {wr : World} {l : Bool} {vb v : Value} {xs : List It} {ys : List (Bool × Value × Value)} {s t : Nat → Nat} {b : List Nat} (h : Gl T ext L q wr l vb v xs ys s t) (hs : Sg ext wr lo vb b) (hlo : lo ≤ L) (hn : 56 * xs.length ≤ 140737488351232) : Og T ext wr lo wr.heap.size (.mk l b xs) vb v :=
  .mk ys s t hs (fun k hk => (hs.block hk).2.1) (own_rebase h.own (fun g hg => by have := (h.own.lt g hg).1; omega)) (fun k hk => (h.own.lt k hk).2) h.len hn (fun i hi => by have := h.h1 i hi; omega) h.h3 h.hb h.hr
end Go.Proofs.Ytledfigfokoiiaa
