import Derived.Test.YtepeolbbplodfaaGreatDoorRlq
/-
  An item that a call has made, of any shape; ext: what stands behind each string.
-/
namespace Go.Proofs.YtepeolbbplodfaaGreatDoor
open Go.RowKit

/-- bytes in a block of their own, ext behind them -/
def Sg (ext : List Nat) (w : World) (lo : Nat) (v : Value) (b : List Nat) : Prop := ∃ a c, v = .slice a b.length c ∧ w.ownsRow lo 5 1 (.slice a (b ++ ext).length c) (b ++ ext).length (bv (b ++ ext)) ∧ (∀ x ∈ b ++ ext, x < 256) ∧ b.length ≤ 140737488351232
theorem Sg.block {ext : List Nat} {w : World} {lo : Nat} {v : Value} {b : List Nat} (h : Sg ext w lo v b) {q : Nat} (hq : v.ownBlock = some q) : lo ≤ q ∧ q < w.heap.size ∧ ∃ cur, w.heap[q]? = some (.cells cur 5 (0, 0)) := by
  obtain ⟨a, c, rfl, ho, -, -⟩ := h
  have hq' : (Value.slice a (b ++ ext).length c).ownBlock = some q := by
    cases a with
    | none => cases hq
    | some p => exact hq
  exact ⟨(ho.lt q hq').1, (ho.lt q hq').2, own_block ho hq'⟩
theorem Sg.same {ext : List Nat} {w w' : World} {lo : Nat} {v : Value} {b : List Nat} (h : Sg ext w lo v b) (k : ∀ q, v.ownBlock = some q → w'.heap[q]? = w.heap[q]?) : Sg ext w' lo v b := by
  obtain ⟨a, c, rfl, ho, r⟩ := h
  refine ⟨a, c, rfl, own_same ho (fun g hg => k g ?_), r⟩
  cases a with
  | none => cases hg
  | some p => exact hg
theorem Sg.base {ext : List Nat} {w : World} {lo lo' : Nat} {v : Value} {b : List Nat} (h : Sg ext w lo v b) (k : lo' ≤ lo) : Sg ext w lo' v b := by
  obtain ⟨a, c, rfl, ho, r⟩ := h
  exact ⟨a, c, rfl, own_rebase ho (fun g hg => by have := (ho.lt g hg).1; omega), r⟩
theorem Sg.vb {ext : List Nat} {w : World} {lo : Nat} {v : Value} {b : List Nat} (h : Sg ext w lo v b) : Vb w v b := by
  obtain ⟨a, c, rfl, ho, hx, hl⟩ := h
  have le : (b ++ ext).length = b.length + ext.length := List.length_append
  refine ⟨a, (Value.slice a (b ++ ext).length c).ownBlock.getD 0, 0, c, rfl, ⟨fun h0 => ?_, fun i hi => ?_, fun i hi => ?_, by omega⟩, ?_, fun ha => ?_, hl⟩
  · rcases ho.2 with ⟨e, q⟩ | ⟨g, cap, cur, e, _⟩
    · omega
    · injection e with e
      subst e
      rfl
  · rcases ho.2 with ⟨e, q⟩ | ⟨g, cap, cur, e, _⟩
    · omega
    · injection e with e _ _
      subst e
      have := ho.cells (g := g) rfl i _ (bv_at (by omega))
      rw [add_flat, gd_app_l hi] at this
      rw [Nat.zero_add]
      exact this
  · have := gd_lt (s := b) (fun x hx' => hx x (by simp [hx'])) i
    omega
  · rcases ho.2 with ⟨e, q⟩ | ⟨g, cap, cur, e, _, _, h1, _⟩
    · injection e with _ _ e
      omega
    · injection e with _ _ e
      omega
  · subst ha
    rcases ho.2 with ⟨e, q⟩ | ⟨g, cap, cur, e, _⟩
    · injection e
    · injection e with e
      cases e
theorem sg_of_own {w : World} {B : Nat} {v : Value} {b : List Nat} (h : w.ownsRow B 5 1 v b.length (bv b)) (hx : ∀ x ∈ b, x < 256) (hl : b.length ≤ 140737488351232) : Sg [] w B v b := by
  obtain ⟨a, c, rfl⟩ := own_slice h
  exact ⟨a, c, rfl, by simpa using h, by simpa using hx, hl⟩

/-- MADE BY A CALL: all its blocks from lo on, below hi. -/
inductive Og (T : TypeId) (ext : List Nat) (w : World) : Nat → Nat → It → Value → Value → Prop
  | mk {lo hi : Nat} {l : Bool} {b : List Nat} {xs : List It} {vb vi : Value} (ys : List (Bool × Value × Value)) (s t : Nat → Nat) (hs : Sg ext w lo vb b) (hslt : ∀ q, vb.ownBlock = some q → q < hi) (row : w.ownsRow lo T 3 vi xs.length (fl ys)) (hlt : ∀ q, vi.ownBlock = some q → q < hi) (hl : ys.length = xs.length) (hn : 56 * xs.length ≤ 140737488351232)
      (h1 : ∀ i, i < xs.length → lo ≤ s i) (h3 : ∀ i, i < xs.length → t i ≤ hi) (hb : ∀ (i : Nat) (x : It) (y : Bool × Value × Value), xs[i]? = some x → ys[i]? = some y → y.1 = x.l)
      (hr : ∀ (i : Nat) (x : It) (y : Bool × Value × Value), xs[i]? = some x → ys[i]? = some y → Og T ext w (s i) (t i) x y.2.1 y.2.2) : Og T ext w lo hi (.mk l b xs) vb vi
theorem Og.same {T : TypeId} {ext : List Nat} {w w' : World} : ∀ {lo hi : Nat} {x : It} {vb vi : Value}, Og T ext w lo hi x vb vi → (∀ k, lo ≤ k → k < hi → w'.heap[k]? = w.heap[k]?) → Og T ext w' lo hi x vb vi := by
  intro lo hi x vb vi h
  induction h with
  | mk ys s t hs hslt row hlt hl hn h1 h3 hb hr ih =>
    intro k
    refine .mk ys s t (hs.same (fun q hq => k q (hs.block hq).1 (hslt q hq))) hslt (own_same row (fun g hg => k g (row.lt g hg).1 (hlt g hg))) hlt hl hn h1 h3 hb (fun i x y hx hy => ih i x y hx hy (fun q q1 q2 => ?_))
    have hi := (List.getElem?_eq_some_iff.1 hx).1
    have := h1 i hi
    have := h3 i hi
    exact k q (by omega) (by omega)
theorem Og.wide {T : TypeId} {ext : List Nat} {w : World} {lo hi lo' hi' : Nat} {x : It} {vb vi : Value} (h : Og T ext w lo hi x vb vi) (h1 : lo' ≤ lo) (h2 : hi ≤ hi') : Og T ext w lo' hi' x vb vi := by
  cases h with
  | mk ys s t hs hslt row hlt hl hn h1' h3 hb hr =>
    exact .mk ys s t (hs.base h1) (fun q hq => by have := hslt q hq; omega) (own_rebase row (fun g hg => by have := (row.lt g hg).1; omega)) (fun q hq => by have := hlt q hq; omega) hl hn (fun i hi => by have := h1' i hi; omega) (fun i hi => by have := h3 i hi; omega) hb hr
theorem Og.keep {T : TypeId} {ext : List Nat} {w w' : World} {lo hi : Nat} {x : It} {vb vi : Value} (h : Og T ext w lo hi x vb vi) (k : Below w.heap.size w w') (hh : hi ≤ w.heap.size) : Og T ext w' lo hi x vb vi := h.same (fun q _ q2 => k.block q (by omega))
/-- the bytes, with what stands behind them -/
def Sx (ext : List Nat) (w : World) (v : Value) (b : List Nat) : Prop := ∃ lo, Sg ext w lo v b
instance (ext : List Nat) : Rel (Sx ext) where
  keep := fun ⟨lo, h⟩ k => ⟨lo, h.same (fun q hq => k.block q (h.block hq).2.1)⟩
  form := fun ⟨lo, h⟩ => by
    obtain ⟨a, c, e, _⟩ := h
    exact ⟨a, c, e⟩
theorem Og.marks {T : TypeId} {ext : List Nat} {w : World} : ∀ {lo hi : Nat} {x : It} {vb vi : Value}, Og T ext w lo hi x vb vi → Lies (Sx ext) w x vb vi := by
  intro lo hi x vb vi h
  induction h with
  | @mk lo hi l b xs vb vi ys s t hs hslt row hlt hl hn h1 h3 hb hr ih =>
    obtain ⟨a, c, e⟩ := own_slice row
    subst e
    have hA : 0 < xs.length → ∃ g, a = some ⟨g, 0, none⟩ := fun h0 => by
      rcases row.2 with ⟨_, q⟩ | ⟨g, cap, cur, e, _⟩
      · omega
      · injection e with e
        exact ⟨g, e⟩
    by_cases h0 : xs.length = 0
    · exact Its.shut (blk := 0) (off := 0) ⟨fun h => by omega, by omega, fun i x hx => by have := (List.getElem?_eq_some_iff.1 hx).1; omega⟩ ⟨lo, hs⟩
    · obtain ⟨g, rfl⟩ := hA (by omega)
      refine Its.shut (blk := g) (off := 0) ⟨fun _ => rfl, by omega, fun i x hx => ?_⟩ ⟨lo, hs⟩
      have hi := (List.getElem?_eq_some_iff.1 hx).1
      obtain ⟨y, hy⟩ : ∃ y, ys[i]? = some y := ⟨_, List.getElem?_eq_getElem (by omega)⟩
      obtain ⟨k1, k2, k3⟩ := fl_at hy
      have hL := ih i x y hx hy
      obtain ⟨a1, n1, c1, a2, n2, c2, e1, e2⟩ := hL.form
      have c1' := row.cells (g := g) rfl _ _ k1
      have c2' := row.cells (g := g) rfl _ _ k2
      have c3' := row.cells (g := g) rfl _ _ k3
      rw [add_flat] at c1' c2' c3'
      refine ⟨a1, n1, c1, a2, n2, c2, ?_, ?_, ?_, ?_⟩
      · rw [Nat.zero_add, c1', hb i x y hx hy]
      · rw [Nat.zero_add, c2', e1]
      · rw [Nat.zero_add, c3', e2]
      · rw [← e1, ← e2]; exact hL
theorem Og.lies {T : TypeId} {ext : List Nat} {w : World} {lo hi : Nat} {x : It} {vb vi : Value} (h : Og T ext w lo hi x vb vi) : Lies Vb w x vb vi := h.marks.imp (fun _ _ ⟨_, q⟩ => q.vb) (fun _ _ => rfl)

/-- AN ITEM BEING MADE, in the box q: v its items so far; from L on lies what the loop has made. -/
structure Gl (T : TypeId) (ext : List Nat) (L q : Nat) (wr : World) (l : Bool) (vb v : Value) (xs : List It) (ys : List (Bool × Value × Value)) (s t : Nat → Nat) : Prop where
  own : wr.ownsRow L T 3 v xs.length (fl ys)
  len : ys.length = xs.length
  h1 : ∀ i, i < xs.length → L ≤ s i
  h3 : ∀ i, i < xs.length → t i ≤ wr.heap.size
  hb : ∀ (i : Nat) (x : It) (y : Bool × Value × Value), xs[i]? = some x → ys[i]? = some y → y.1 = x.l
  hr : ∀ (i : Nat) (x : It) (y : Bool × Value × Value), xs[i]? = some x → ys[i]? = some y → Og T ext wr (s i) (t i) x y.2.1 y.2.2
  ap : ∀ g, v.ownBlock = some g → ∀ i, i < xs.length → g < s i ∨ t i ≤ g
  box : Bx wr q T (.bool l) vb v
  lq : q < L
  ls : L ≤ wr.heap.size
theorem Gl.start {T : TypeId} {ext : List Nat} {L q : Nat} {wr : World} {l : Bool} {vb : Value} (h : Bx wr q T (.bool l) vb (.slice none 0 0)) (hq : q < L) (hL : L ≤ wr.heap.size) : Gl T ext L q wr l vb (.slice none 0 0) [] [] (fun _ => 0) (fun _ => 0) :=
  ⟨⟨rfl, Or.inl ⟨rfl, rfl⟩⟩, rfl, fun i hi => by simp at hi, fun i hi => by simp at hi, fun i x y hx => by simp at hx, fun i x y hx => by simp at hx, fun q hq => (by cases hq), h, hq, hL⟩
theorem Gl.next {T : TypeId} {ext : List Nat} {L q : Nat} {wr w2 w5 : World} {l : Bool} {vb v v' vy vz : Value} {xs : List It} {ys : List (Bool × Value × Value)} {s t : Nat → Nat} {y : It} {o' : Obj} {S E : Nat} (h : Gl T ext L q wr l vb v xs ys s t)
    (b2 : Below wr.heap.size wr w2) (ho : Og T ext w2 S E y vy vz) (hS : wr.heap.size ≤ S) (hE : E ≤ w2.heap.size)
    (own' : w5.ownsRow L T 3 v' (xs.length + 1) (fl ys ++ [.bool y.l, vy, vz])) (gr : (w2.alloc o').grownBy w5 v.ownBlock)
    (hg : ∀ g, v'.ownBlock = some g → v.ownBlock = some g ∨ w2.heap.size ≤ g) :
    (∃ s' t', Gl T ext L q (w5.setCell ⟨q, 2, none⟩ v') l vb v' (xs ++ [y]) (ys ++ [(y.l, vy, vz)]) s' t') ∧ (∀ k, k < wr.heap.size → k ≠ q → v.ownBlock ≠ some k → (w5.setCell ⟨q, 2, none⟩ v').heap[k]? = wr.heap[k]?) ∧ wr.heap.size ≤ (w5.setCell ⟨q, 2, none⟩ v').heap.size := by
  have z0 := h.ls
  have z1 := h.lq
  have z2 := b2.size
  have z5 : w2.heap.size + 1 ≤ w5.heap.size := by have := gr.size; simpa using this
  have vlt : ∀ k, v.ownBlock = some k → L ≤ k ∧ k < wr.heap.size := fun k hk => h.own.lt k hk
  have key : ∀ k, k < w2.heap.size → v.ownBlock ≠ some k → k ≠ q → (w5.setCell ⟨q, 2, none⟩ v').heap[k]? = w2.heap[k]? := fun k k1 k3 k4 => by
    rw [Below.heap_setCell _ _ _ _ (fun e => k4 e), gr.block k (by simp; omega) (fun e => k3 e.symm)]
    exact heap_alloc_old _ _ k1
  have old : ∀ k, k < wr.heap.size → w2.heap[k]? = wr.heap[k]? := fun k hk => b2.block k hk
  have n1 : (xs ++ [y]).length = xs.length + 1 := by simp
  have e5 : (w5.setCell ⟨q, 2, none⟩ v').heap.size = w5.heap.size := by simp
  refine ⟨⟨fun i => if i = xs.length then S else s i, fun i => if i = xs.length then E else t i, ?_, by simp [h.len], fun i hi => ?_, fun i hi => ?_, fun i x p hx hp => ?_, fun i x p hx hp => ?_, fun g hg' i hi => ?_, ?_, z1, by omega⟩, fun k k1 k2 k3 => (key k (by omega) k3 k2).trans (old k k1), by omega⟩
  · rw [n1, fl_app]
    refine own_same own' (fun g hg' => ?_)
    exact Below.heap_setCell _ _ _ _ (fun e => by have := (own'.lt g hg').1; simp at e; omega)
  · rw [n1] at hi
    by_cases e : i = xs.length
    · simp only [if_pos e]; omega
    · simp only [if_neg e]; exact h.h1 i (by omega)
  · rw [n1] at hi
    rw [e5]
    by_cases e : i = xs.length
    · simp only [if_pos e]; omega
    · simp only [if_neg e]
      have := h.h3 i (by omega)
      omega
  · by_cases e : i < xs.length
    · rw [List.getElem?_append_left e] at hx
      rw [List.getElem?_append_left (by have := h.len; omega)] at hp
      exact h.hb i x p hx hp
    · have hi := (List.getElem?_eq_some_iff.1 hx).1
      rw [n1] at hi
      have e2 : i = xs.length := by omega
      subst e2
      rw [List.getElem?_append_right (by omega)] at hx
      rw [List.getElem?_append_right (by have := h.len; omega)] at hp
      simp at hx
      simp [h.len] at hp
      subst hx
      subst hp
      rfl
  · by_cases e : i < xs.length
    · rw [List.getElem?_append_left e] at hx
      rw [List.getElem?_append_left (by have := h.len; omega)] at hp
      simp only [if_neg (show ¬ i = xs.length by omega)]
      have a1 := h.h1 i e
      have a3 := h.h3 i e
      refine (h.hr i x p hx hp).same (fun k k1 k2 => ?_)
      rw [key k (by omega) (fun e2 => by have := h.ap k e2 i e; omega) (by omega), old k (by omega)]
    · have hi := (List.getElem?_eq_some_iff.1 hx).1
      rw [n1] at hi
      have e2 : i = xs.length := by omega
      subst e2
      rw [List.getElem?_append_right (by omega)] at hx
      rw [List.getElem?_append_right (by have := h.len; omega)] at hp
      simp at hx
      simp [h.len] at hp
      subst hx
      subst hp
      simp only [if_true]
      exact ho.same (fun k k1 k2 => key k (by omega) (fun e2 => by have := (vlt k e2).2; omega) (by omega))
  · rw [n1] at hi
    rcases hg g hg' with hq' | hq'
    · have := vlt g hq'
      by_cases e : i = xs.length
      · simp only [if_pos e]; omega
      · simp only [if_neg e]; exact h.ap g hq' i (by omega)
    · by_cases e : i = xs.length
      · simp only [if_pos e]; omega
      · simp only [if_neg e]
        have := h.h3 i (by omega)
        omega
  · have : Bx w5 q T (.bool l) vb v := by
      refine h.box.keep ?_
      rw [gr.block _ (by simp; omega) (fun e2 => by have := (vlt _ e2.symm).1; omega)]
      rw [heap_alloc_old _ _ (by omega)]
      exact old q (by omega)
    exact this.set2
/-- the item is made -/
theorem Gl.done {T : TypeId} {ext : List Nat} {L q lo : Nat} {wr : World} {l : Bool} {vb v : Value} {xs : List It} {ys : List (Bool × Value × Value)} {s t : Nat → Nat} {b : List Nat} (h : Gl T ext L q wr l vb v xs ys s t) (hs : Sg ext wr lo vb b) (hlo : lo ≤ L) (hn : 56 * xs.length ≤ 140737488351232) : Og T ext wr lo wr.heap.size (.mk l b xs) vb v :=
  .mk ys s t hs (fun k hk => (hs.block hk).2.1) (own_rebase h.own (fun g hg => by have := (h.own.lt g hg).1; omega)) (fun k hk => (h.own.lt k hk).2) h.len hn (fun i hi => by have := h.h1 i hi; omega) h.h3 h.hb h.hr
end Go.Proofs.YtepeolbbplodfaaGreatDoor

/-
  readList, walked; the two together.
-/
namespace Go.Proofs.YtepeolbbplodfaaGreatDoor
open Go.RowKit

set_option maxRecDepth 100000 in
set_option maxHeartbeats 3200000 in
theorem readList_zero (w : World) (a : Option Addr) (b off e c p : Nat) (s : List Nat) (_hv : Vp w a b off e c s) (hp : p < e) (hg : ¬ gd s p < 192) :
    Calls Tryz.prog 143 #[.slice a e c, .int .i64 p, .int .i64 ((80 - 0 : Nat) : Int)] w (ItemPost s 0 p e w) := by
  have HR : Hid (rd s 0 p e = .bad p 53) := by
    show _ = _
    rw [rd_eq, if_neg (by omega), if_neg (by omega), if_neg hg, if_pos rfl]
  have KG := fun w => giveUp_any w p 53
  have e80 : ((80 - 0 : Nat) : Int) = 80 := by decide
  rw [e80]
  clear _hv hg
  go_enter Tryz.func143, Tryz.ntmps143
  go_wp2_with (go_at_call 134; refine (KG _).mono ?_; rintro e w' ⟨rfl, rfl⟩)
  exact ⟨rfl, by unfold ItemPost; rw [HR.out]; exact ⟨below_alloc _ _, rfl⟩⟩

set_option maxRecDepth 100000 in
set_option maxHeartbeats 3200000 in
theorem readList_succ (d : Nat) (hd : d + 1 ≤ 80) (KI : ∀ (w : World) (a : Option Addr) (b off e c p : Nat) (s : List Nat), Vp w a b off e c s → p ≤ e →
      Calls Tryz.prog 133 #[.slice a e c, .int .i64 p, .int .i64 ((80 - d : Nat) : Int)] w (ItemPost s d p e w))
    (w : World) (a : Option Addr) (b off e c p : Nat) (s : List Nat) (hv : Vp w a b off e c s) (hp : p < e) (hg : ¬ gd s p < 192) :
    Calls Tryz.prog 143 #[.slice a e c, .int .i64 p, .int .i64 ((80 - (d + 1) : Nat) : Int)] w (ItemPost s (d + 1) p e w) := by
  have he : e ≤ 1048576 := by have := hv.len; have := hv.small; omega
  obtain ⟨dd, edd⟩ : ∃ dd, dd = 80 - (d + 1) := ⟨_, rfl⟩
  have hdd : dd < 80 := by omega
  have ed2 : 80 - d = dd + 1 := by omega
  rw [← edd]
  rw [ed2] at KI
  have i0 : ¬ (80 : Int) ≤ (dd : Int) := by omega
  have hb256 := gd_lt hv.ok p
  obtain ⟨w1, ew1⟩ : ∃ w1, w1 = w.alloc (.cells #[.bool false, .slice none 0 0, .slice none 0 0] 191) := ⟨_, rfl⟩
  have b1 : Below w.heap.size w w1 := by rw [ew1]; exact below_alloc _ _
  have hv1 := hv.keep b1
  have K := readHead_any w1 _ _ _ _ _ p 192 (gd s p - 192) s hv1 hp (by omega) (by omega)
  have HB1 : Hid (Below w.heap.size w w1 ∧ w1 = w.alloc (.cells #[.bool false, .slice none 0 0, .slice none 0 0] 191)) := ⟨b1, ew1⟩
  cases hh : rdHead s p e (gd s p - 192) with
  | bad q =>
    have HR : Hid (rd s (d + 1) p e = .bad p q) := by
      show _ = _
      rw [rd_eq, if_neg (by omega), if_neg (by omega), if_neg hg, if_neg (by omega), hh]
    rw [hh] at K
    clear KI hv hv1 edd ed2 hd b1 ew1 hh
    go_enter Tryz.func143, Tryz.ntmps143
    go_wp2_with fail
    rw [← HB1.out.2]
    refine K.mono ?_
    rintro r w2 ⟨rfl, rfl⟩
    go_wp2_with fail
    exact ⟨rfl, by unfold ItemPost; rw [HR.out]; exact ⟨HB1.out.1, rfl⟩⟩
  | ok A Z =>
    obtain ⟨k1, k2, k3, k4, -⟩ := rdHead_ok (base := 192) hv.ok hv.len hp (by omega) (by omega) hh
    have HR : Hid (rd s (d + 1) p e = rdL (rd s d) (Z - A) A Z []) := by
      show _ = _
      rw [rd_eq, if_neg (by omega), if_neg (by omega), if_neg hg, if_neg (by omega), hh]
      rfl
    rw [hh] at K
    have hcap := hv.cap
    have j1 := slice_upto a e c Z (by omega)
    have hvZ := hv.upto k3
    have HV : Hid (Vp w a b off Z c s) := hvZ
    have HRO : Hid (∀ at_ y z, at_ ≤ Z → rd s d at_ Z = .ok y z → at_ < z ∧ z ≤ Z) := fun at_ y z h1 h2 => by
      have := rd_ok hv.ok d at_ Z y z (by have := hv.len; omega) h1 h2
      exact ⟨this.1, this.2.1⟩
    obtain ⟨i25, hi0, hz0, hz1, hz2⟩ := info_parts infoIt
    have HI : Hid (Tryz.prog.info? 191 = some i25 ∧ i25.zero = some (.agg #[.bool false, .slice none 0 0, .slice none 0 0]) ∧ i25.size = 3 ∧ i25.bytes = 56) := ⟨hi0, hz0, hz1, hz2⟩
    have HKI : Hid (∀ (w : World) (a : Option Addr) (b off e c p : Nat) (s : List Nat), Vp w a b off e c s → p ≤ e → Calls Tryz.prog 133 #[.slice a e c, .int .i64 p, .int .i64 ((dd : Int) + 1)] w (ItemPost s d p e w)) := by
      intro w a b off e c p s h1 h2
      have := KI w a b off e c p s h1 h2
      rwa [show ((dd + 1 : Nat) : Int) = (dd : Int) + 1 by omega] at this
    have hsmall : Z ≤ 1048576 := by omega
    clear KI hv hv1 hvZ edd ed2 hd b1 ew1 hh hi0 hz0 hz1 hz2
    go_enter Tryz.func143, Tryz.ntmps143
    go_wp2_with fail
    rw [← HB1.out.2]
    refine K.mono ?_
    rintro r w2 ⟨rfl, rfl⟩
    have b2 : Below w2.heap.size w2 (w2.alloc (.cells #[.bool true, .slice none 0 0, .slice none 0 0] 191)) := below_alloc _ _
    have s2 : w2.heap.size = w.heap.size + 1 := by rw [HB1.out.2]; simp
    have r0 : Rl w (w2.alloc (.cells #[.bool true, .slice none 0 0, .slice none 0 0] 191)) (.slice none 0 0) [] [] (fun _ => 0) (fun _ => 0) := by
      refine Rl.start (ch HB1.out.1 b2) ?_ ?_
      · show _ = _
        rw [heap_alloc_old _ _ (by omega), HB1.out.2]
        exact heap_alloc_new _ _
      · have := heap_alloc_new w2 (.cells #[.bool true, .slice none 0 0, .slice none 0 0] 191)
        rw [s2] at this
        exact this
    have HS2 : Hid (w2.heap.size = w.heap.size + 1) := s2
    have HR0 : Hid (Rl w (w2.alloc (.cells #[.bool true, .slice none 0 0, .slice none 0 0] 191)) (.slice none 0 0) [] [] (fun _ => 0) (fun _ => 0)) := r0
    clear b2 r0 s2
    go_wp2_with fail
    rw [HS2.out]
    go_loopg [8] (Z - A) (fun gg u wr => ∃ (at_ n : Nat) (v : Value) (xs : List It) (ys : List (Bool × Value × Value)) (sf tf : Nat → Nat), A + xs.length ≤ at_ ∧ at_ ≤ Z ∧ gg = Z - at_ ∧ Z - at_ ≤ n ∧ u = .int .i64 at_ ∧ rdL (rd s d) (Z - A) A Z [] = rdL (rd s d) n at_ Z xs ∧ Rl w wr v xs ys sf tf)
    case atStart => exact ⟨A, Z - A, _, [], [], _, _, by simp, k2, rfl, Nat.le_refl _, rfl, rfl, HR0.out⟩
    case round =>
      clear HR0
      obtain ⟨at_, n, v, xs, ys, sf, tf, hxa, haz, rfl, hn, rfl, hrl, hR⟩ := hrel
      have HRL : Hid (rdL (rd s d) (Z - A) A Z [] = rdL (rd s d) n at_ Z xs) := hrl
      have HRR : Hid (Rl w wr v xs ys sf tf) := hR
      obtain ⟨av, cv, ev⟩ := own_slice hR.own
      subst ev
      obtain ⟨x0, x1, x2, xf⟩ := hR.box.cells
      have f2 := xf 2
      clear hrl hR xf
      by_cases hin : at_ < Z
      · have i1 : (at_ : Int) < (Z : Int) := by omega
        obtain ⟨n', rfl⟩ : ∃ n', n = n' + 1 := ⟨n - 1, by omega⟩
        have hbA := below_alloc wr (.cells #[.bool false, .slice none 0 0, .slice none 0 0] 191)
        have KK := HKI.out (wr.alloc (.cells #[.bool false, .slice none 0 0, .slice none 0 0] 191)) a b off Z c at_ s (HV.out.keep (ch HRR.out.below hbA)) haz
        have er : ∀ r w', ItemPost s d at_ Z (wr.alloc (.cells #[.bool false, .slice none 0 0, .slice none 0 0] 191)) r w' → Below (wr.alloc (.cells #[.bool false, .slice none 0 0, .slice none 0 0] 191)).heap.size (wr.alloc (.cells #[.bool false, .slice none 0 0, .slice none 0 0] 191)) w' ∧ match rd s d at_ Z with
            | .ok x z => ∃ vb vi, r = .returned (.tuple #[iv x.l vb vi, .int .i64 z]) ∧ Own w' (wr.alloc (.cells #[.bool false, .slice none 0 0, .slice none 0 0] 191)).heap.size w'.heap.size x vb vi
            | .bad q c => r = .panicked [flt q c] := fun r w' h => h
        have HRS := HRL.out
        rw [rdL, if_pos hin] at HRS
        clear hbA
        cases hrd : rd s d at_ Z with
        | bad q cd =>
          rw [hrd] at er HRS
          have HX : Hid (rd s (d + 1) p e = .bad q cd) := HR.out.trans HRS
          clear hrd HRS
          go_wp2_with fail
          refine KK.mono ?_
          intro r w3 hr
          obtain ⟨hb3, rfl⟩ := er r w3 hr
          have HZ : Hid (Below w.heap.size w w3) := ch (ch HRR.out.below (below_alloc wr _)) hb3
          clear hr hb3
          go_wp2_with fail
          exact ⟨rfl, by unfold ItemPost; rw [HX.out]; exact ⟨HZ.out, rfl⟩⟩
        | ok y z =>
          rw [hrd] at er HRS
          dsimp only at HRS
          have HX : Hid (rdL (rd s d) (Z - A) A Z [] = rdL (rd s d) n' z Z (xs ++ [y])) := HRS
          have hz := HRO.out at_ y z haz hrd
          clear hrd HRS
          go_wp2_with fail
          refine KK.mono ?_
          intro r w3 hr
          obtain ⟨hb3, vb, vi, rfl, ho⟩ := er r w3 hr
          obtain ⟨a1, n1, q1, a2, n2, q2, rfl, rfl⟩ := ho.lies.form
          have hz1 : wr.heap.size < (wr.alloc (.cells #[.bool false, .slice none 0 0, .slice none 0 0] 191)).heap.size := by simp
          have y0 : Bx w3 wr.heap.size 191 (.bool false) (.slice none 0 0) (.slice none 0 0) := (hb3.block _ hz1).trans (heap_alloc_new _ _)
          have xb : Bx w3 (w.heap.size + 1) 191 (.bool true) (.slice none 0 0) (.slice av xs.length cv) := (hb3.block _ (by have := HRR.out.size; omega)).trans ((heap_alloc_old _ _ (by have := HRR.out.size; omega)).trans HRR.out.box)
          obtain ⟨g0, g1, g2, gf⟩ := y0.cells
          have gf0 := gf 0
          have gf1 := gf 1
          have gf2 := gf 2
          have xs3 : Bx (set3 w3 wr.heap.size (.bool y.l) (.slice a1 n1 q1) (.slice a2 n2 q2)) (w.heap.size + 1) 191 (.bool true) (.slice none 0 0) (.slice av xs.length cv) := xb.keep ((set3_turn _ _ _ _ _).block _ xb.lt (by have := HRR.out.size; omega))
          have y3 := y0.set3 (x' := .bool y.l) (y' := .slice a1 n1 q1) (z' := .slice a2 n2 q2)
          obtain ⟨xc0, xc1, xc2, -⟩ := xs3.cells
          obtain ⟨yc0, yc1, yc2, -⟩ := y3.cells
          have HZ : Hid (Below (wr.alloc (.cells #[.bool false, .slice none 0 0, .slice none 0 0] 191)).heap.size (wr.alloc (.cells #[.bool false, .slice none 0 0, .slice none 0 0] 191)) w3 ∧ Own w3 (wr.alloc (.cells #[.bool false, .slice none 0 0, .slice none 0 0] 191)).heap.size w3.heap.size y (.slice a1 n1 q1) (.slice a2 n2 q2)) := ⟨hb3, ho⟩
          have own4 : ((set3 w3 wr.heap.size (.bool y.l) (.slice a1 n1 q1) (.slice a2 n2 q2)).alloc (.cells #[.bool y.l, .slice a1 n1 q1, .slice a2 n2 q2] 191)).ownsRow (w.heap.size + 2) 191 3 (.slice av xs.length cv) xs.length (fl ys) := by
            refine own_same HRR.out.own (fun g hg => ?_)
            have hlt := (HRR.out.own.lt g hg).2
            rw [heap_alloc_old _ _ (by have := hb3.size; simp at this; simp; omega), (set3_turn w3 wr.heap.size (.bool y.l) (.slice a1 n1 q1) (.slice a2 n2 q2)).block g (by have := hb3.size; simp at this; omega) (by omega), hb3.block g (by simp; omega)]
            exact heap_alloc_old _ _ hlt
          have nw := World.news_of_block (w := (set3 w3 wr.heap.size (.bool y.l) (.slice a1 n1 q1) (.slice a2 n2 q2)).alloc (.cells #[.bool y.l, .slice a1 n1 q1, .slice a2 n2 q2] 191)) (B := w3.heap.size) (cs := #[.bool y.l, .slice a1 n1 q1, .slice a2 n2 q2]) (t := 191) (fr := (0, 0)) (by have := heap_alloc_new (set3 w3 wr.heap.size (.bool y.l) (.slice a1 n1 q1) (.slice a2 n2 q2)) (.cells #[.bool y.l, .slice a1 n1 q1, .slice a2 n2 q2] 191); rw [set3_size] at this; exact this)
          have HO4 : Hid (((set3 w3 wr.heap.size (.bool y.l) (.slice a1 n1 q1) (.slice a2 n2 q2)).alloc (.cells #[.bool y.l, .slice a1 n1 q1, .slice a2 n2 q2] 191)).ownsRow (w.heap.size + 2) 191 3 (.slice av xs.length cv) xs.length (fl ys)) := own4
          have HNW : Hid (∀ (j : Nat) (u : Value), #[Value.bool y.l, .slice a1 n1 q1, .slice a2 n2 q2].toList[j]? = some u → ((set3 w3 wr.heap.size (.bool y.l) (.slice a1 n1 q1) (.slice a2 n2 q2)).alloc (.cells #[.bool y.l, .slice a1 n1 q1, .slice a2 n2 q2] 191)).cell? ((⟨w3.heap.size, 0, none⟩ : Addr).add j) = some u) := nw
          have hsz : w.heap.size + 2 ≤ w3.heap.size := by have := HRR.out.size; have := hb3.size; simp at this; omega
          have hxl : xs.length + 1 ≤ 1048576 := by omega
          obtain ⟨nx, enx⟩ : ∃ nx, nx = xs.length := ⟨_, rfl⟩
          have HNX : Hid (nx = xs.length) := enx
          have HB9 : Hid (∀ w9, ((set3 w3 wr.heap.size (.bool y.l) (.slice a1 n1 q1) (.slice a2 n2 q2)).alloc (.cells #[.bool y.l, .slice a1 n1 q1, .slice a2 n2 q2] 191)).grownBy w9 (Value.slice av xs.length cv).ownBlock → Bx w9 (w.heap.size + 1) 191 (.bool true) (.slice none 0 0) (.slice av xs.length cv)) := fun w9 gr => by
            refine xs3.keep ?_
            rw [gr.block _ (by simp; omega) (fun e2 => by have := (HRR.out.own.lt _ e2.symm).1; omega)]
            exact heap_alloc_old _ _ (by simp; omega)
          clear hr hb3 ho y0 xb gf hz1 x0 x1 x2 f2 own4 nw
          go_wp2_with (refine wpList_append_lies _ (by rfl) (.tmp 37) (.tmp 39) 189 (by rfl) (w.heap.size + 2) 191 i25 _ 3 56 Tryz.underlying189 HI.out.1 HI.out.2.1 HI.out.2.2.1 HI.out.2.2.2 (by rfl) (by decide) (.slice av xs.length cv) xs.length (fl ys) (by rfl) HO4.out ⟨w3.heap.size, 0, none⟩ 1 1 [.bool y.l, .slice a1 n1 q1, .slice a2 n2 q2] (by rfl) (by rfl) HNW.out (by simp [Value.oneCell']) (by decide) (by unfold maxLen; omega) (by omega) (by simp; omega) _ (by rfl) ?_; intro g9 cap9 w9 own9 gr9 at9 lt9; obtain ⟨c90, c91, c92, c9f⟩ := (HB9.out w9 gr9).cells; have f92 := c9f 2; have HL9 : Hid (w9.ownsRow (w.heap.size + 2) 191 3 (.slice (some ⟨g9, 0, none⟩) (xs.length + 1) cap9) (xs.length + 1) (fl ys ++ [.bool y.l, .slice a1 n1 q1, .slice a2 n2 q2]) ∧ ((set3 w3 wr.heap.size (.bool y.l) (.slice a1 n1 q1) (.slice a2 n2 q2)).alloc (.cells #[.bool y.l, .slice a1 n1 q1, .slice a2 n2 q2] 191)).grownBy w9 (Value.slice av xs.length cv).ownBlock ∧ ((Value.slice av xs.length cv).ownBlock = some g9 ∨ g9 = ((set3 w3 wr.heap.size (.bool y.l) (.slice a1 n1 q1) (.slice a2 n2 q2)).alloc (.cells #[.bool y.l, .slice a1 n1 q1, .slice a2 n2 q2] 191)).heap.size)) := ⟨own9, gr9, at9⟩; clear own9 gr9 at9 lt9 c9f)
          have hN := HRR.out.next HZ.out.1 HZ.out.2 HL9.out.1 HL9.out.2.1 (fun g hg => by
            have e : g9 = g := Option.some.inj hg
            subst e
            rcases HL9.out.2.2 with q | q
            · exact Or.inl q
            · right; rw [q]; simp)
          have HN : Hid (∃ sf' tf', Rl w (w9.setCell ⟨w.heap.size + 1, 2, none⟩ (.slice (some ⟨g9, 0, none⟩) (xs.length + 1) cap9)) (.slice (some ⟨g9, 0, none⟩) (xs.length + 1) cap9) (xs ++ [y]) (ys ++ [(y.l, .slice a1 n1 q1, .slice a2 n2 q2)]) sf' tf') := ⟨_, _, hN⟩
          clear hN
          go_wp2_with fail
          go_roundg (Z - z)
          case measure => omega
          case rel =>
            obtain ⟨sf', tf', hN⟩ := HN.out
            exact ⟨z, n', _, xs ++ [y], _, sf', tf', by simp; omega, hz.2, rfl, by omega, rfl, HX.out, hN⟩
      · have i1 : ¬ (at_ : Int) < (Z : Int) := by omega
        have ez : at_ = Z := by omega
        have hx : rdL (rd s d) n at_ Z xs = .ok (.mk true [] xs) Z := by
          cases n with
          | zero => rw [rdL]
          | succ n => rw [rdL, if_neg hin]
        have HX : Hid (rd s (d + 1) p e = .ok (.mk true [] xs) Z) := HR.out.trans (HRL.out.trans hx)
        obtain ⟨r0, r1, r2, rf⟩ := HRR.out.res.cells
        have rf0 := rf 0
        have rf1 := rf 1
        have rf2 := rf 2
        clear hx rf
        go_wp2_with fail
        refine bodyPost_ret (res2 rfl _ _ w.heap.size _ _ rfl rfl (loadVar25 (set3_cells r0 r1 r2).1 (set3_cells r0 r1 r2).2.1 (set3_cells r0 r1 r2).2.2)) rfl ?_
        have t3 := set3_turn wr w.heap.size (.bool true) (.slice none 0 0) (.slice av xs.length cv)
        have hsz := HRR.out.size
        unfold ItemPost
        rw [HX.out]
        refine ⟨HRR.out.below.trans (t3.below (fun i q => by omega) (by omega)), _, _, rfl, ?_⟩
        have hR := HRR.out
        have ho : Own wr (w.heap.size + 2) wr.heap.size (.mk true [] xs) (.slice none 0 0) (.slice av xs.length cv) := .lst ys sf tf hR.own (fun q hq => (hR.own.lt q hq).2) hR.len (by omega) hR.h1 hR.h2 hR.h3 hR.h4 hR.hb hR.hr
        exact (ho.turn t3 (fun i q1 q2 => by omega) (Nat.le_refl _)).wide (by omega) (by simp)

/-- READING, however many lists it may go down -/
theorem read_any (d : Nat) (hd : d ≤ 80) : (∀ (w : World) (a : Option Addr) (b off e c p : Nat) (s : List Nat), Vp w a b off e c s → p < e → ¬ gd s p < 192 →
      Calls Tryz.prog 143 #[.slice a e c, .int .i64 p, .int .i64 ((80 - d : Nat) : Int)] w (ItemPost s d p e w)) ∧
    (∀ (w : World) (a : Option Addr) (b off e c p : Nat) (s : List Nat), Vp w a b off e c s → p ≤ e →
      Calls Tryz.prog 133 #[.slice a e c, .int .i64 p, .int .i64 ((80 - d : Nat) : Int)] w (ItemPost s d p e w)) := by
  induction d with
  | zero => exact ⟨readList_zero, readItem_any 0 (by omega) readList_zero⟩
  | succ d ih =>
    have h := readList_succ d hd (ih (by omega)).2
    exact ⟨h, readItem_any (d + 1) hd h⟩
end Go.Proofs.YtepeolbbplodfaaGreatDoor
