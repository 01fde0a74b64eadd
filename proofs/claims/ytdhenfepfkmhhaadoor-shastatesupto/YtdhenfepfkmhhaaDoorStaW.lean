/-
  ShaStates: four states and their bytes.
-/
import Derived.Test.YtdhenfepfkmhhaaDoorPieW
namespace Go.Proofs.YtdhenfepfkmhhaaDoor
open Go.RowKit

structure M4 where
  P : Nat → Nat
  N : Nat → Nat
  X : Nat → Nat → Nat
  A : Nat → Option Addr
  B : Nat → Nat
  O : Nat → Nat
  C : Nat → Nat
def put4 {α : Type} (f : Nat → α) (u : Nat) (x : α) (t : Nat) : α := if t = u then x else f t
theorem put4_at {α : Type} (f : Nat → α) (u : Nat) (x : α) : put4 f u x u = x := by unfold put4; rw [if_pos rfl]
theorem put4_ne {α : Type} {f : Nat → α} {u t : Nat} {x : α} (h : t ≠ u) : put4 f u x t = f t := by unfold put4; rw [if_neg h]
def M4.put (M : M4) (u p n : Nat) (X : Nat → Nat) (a : Option Addr) (b o c : Nat) : M4 :=
  ⟨put4 M.P u p, put4 M.N u n, put4 M.X u X, put4 M.A u a, put4 M.B u b, put4 M.O u o, put4 M.C u c⟩
def PV (M : M4) (t : Nat) : Value := .pointer (some ⟨M.P t, 0, none⟩)
def SV (M : M4) (t : Nat) : Value := .slice (M.A t) (M.N t) (M.C t)

/-- FOUR STATES IN MEMORY, and the bytes that each has taken. -/
structure F4 (w wr : World) (gs T : Nat) (M : M4) : Prop where
  below : Below w.heap.size w wr
  lo : w.heap.size ≤ gs
  rs : wr.rowIs gs 45 4 (PV M)
  rb : wr.rowIs (gs + 1) 46 4 (SV M)
  st : ∀ t, t < 4 → St wr (M.P t) (M.N t) (M.X t)
  pf : ∀ t, t < 4 → gs + 2 ≤ M.P t
  inj : ∀ t u, t < 4 → u < 4 → t ≠ u → M.P t ≠ M.P u
  vw : ∀ t, t < 4 → View wr (M.A t) (M.B t) (M.O t) (M.N t) (fun i => (M.X t i : Int))
  vb : ∀ t, t < 4 → 0 < M.N t → gs + 2 ≤ M.B t ∧ ∀ u, u < 4 → M.B t ≠ M.P u
  nil : ∀ t, t < 4 → M.A t = none → M.C t = 0
  len : ∀ t, t < 4 → M.N t ≤ T
theorem F4.bd {w wr : World} {gs T : Nat} {M : M4} (h : F4 w wr gs T M) {t : Nat} (ht : t < 4) (i : Nat) : M.X t i < 256 := (h.st t ht).bd i
theorem F4.step {w wr w' : World} {gs T : Nat} {M : M4} (h : F4 w wr gs T M) (hb : Below wr.heap.size wr w') : F4 w w' gs T M :=
  ⟨h.below.trans (hb.mono h.below.size), h.lo, h.rs.of_block (hb.block _ h.rs.lt), h.rb.of_block (hb.block _ h.rb.lt), fun t ht => (h.st t ht).below hb, h.pf, h.inj, fun t ht => (h.vw t ht).below hb, h.vb, h.nil, h.len⟩
/-- a store elsewhere -/
theorem F4.other {w wr w' : World} {gs T : Nat} {M : M4} (h : F4 w wr gs T M) {g : Nat} (hs : Save g wr w') (h0 : w.heap.size ≤ g) (h1 : g ≠ gs) (h2 : g ≠ gs + 1) (h3 : ∀ t, t < 4 → g ≠ M.P t) (h4 : ∀ t, t < 4 → 0 < M.N t → g ≠ M.B t) : F4 w w' gs T M :=
  ⟨h.below.trans (hs.below h0 h.below.size), h.lo, hs.row h.rs (fun e => h1 e.symm), hs.row h.rb (fun e => h2 e.symm), fun t ht => (h.st t ht).save hs (fun e => h3 t ht e.symm), h.pf, h.inj, fun t ht => (h.vw t ht).save hs (fun h0 e => h4 t ht h0 e.symm), h.vb, h.nil, h.len⟩
/-- one of the four is another one -/
theorem F4.upd {w wr w' : World} {gs T T' : Nat} {M : M4} (h : F4 w wr gs T M) {u p n : Nat} {X : Nat → Nat} {a : Option Addr} {b o c : Nat} (hu : u < 4) (hb : Below w.heap.size w w')
    (keep : ∀ g, g < wr.heap.size → gs + 2 ≤ g → g ≠ M.P u → w'.heap[g]? = wr.heap[g]?)
    (rs : w'.rowIs gs 45 4 (put4 (PV M) u (.pointer (some ⟨p, 0, none⟩)))) (rb : w'.rowIs (gs + 1) 46 4 (put4 (SV M) u (.slice a n c)))
    (st : St w' p n X) (hp : gs + 2 ≤ p) (hpP : ∀ t, t < 4 → t ≠ u → p ≠ M.P t) (hpB : ∀ t, t < 4 → t ≠ u → 0 < M.N t → M.B t ≠ p)
    (vw : View w' a b o n (fun i => (X i : Int))) (hbv : 0 < n → gs + 2 ≤ b ∧ b ≠ p ∧ ∀ t, t < 4 → t ≠ u → b ≠ M.P t) (nil : a = none → c = 0) (hn : n ≤ T') (hT : T ≤ T') : F4 w w' gs T' (M.put u p n X a b o c) := by
  refine ⟨hb, h.lo, rs.congr (fun t _ => ?_), rb.congr (fun t _ => ?_), fun t ht => ?_, fun t ht => ?_, fun t v ht hv htv => ?_, fun t ht => ?_, fun t ht => ?_, fun t ht => ?_, fun t ht => ?_⟩
  · by_cases e : t = u
    · subst e; rw [put4_at]; simp [PV, M4.put, put4_at]
    · rw [put4_ne e]; simp [PV, M4.put, put4_ne e]
  · by_cases e : t = u
    · subst e; rw [put4_at]; simp [SV, M4.put, put4_at]
    · rw [put4_ne e]; simp [SV, M4.put, put4_ne e]
  · by_cases e : t = u
    · subst e; simp only [M4.put, put4_at]; exact st
    · simp only [M4.put, put4_ne e]
      exact (h.st t ht).of_block (keep _ (h.st t ht).lt (h.pf t ht) (h.inj t u ht hu e))
  · by_cases e : t = u
    · subst e; simp only [M4.put, put4_at]; exact hp
    · simp only [M4.put, put4_ne e]; exact h.pf t ht
  · by_cases e : t = u
    · subst e
      simp only [M4.put, put4_at, put4_ne (fun h => htv h.symm)]
      exact hpP v hv (fun h => htv h.symm)
    · by_cases e2 : v = u
      · subst e2
        simp only [M4.put, put4_at, put4_ne e]
        exact fun h' => hpP t ht e h'.symm
      · simp only [M4.put, put4_ne e, put4_ne e2]
        exact h.inj t v ht hv htv
  · by_cases e : t = u
    · subst e; simp only [M4.put, put4_at]; exact vw
    · simp only [M4.put, put4_ne e]
      have V := h.vw t ht
      refine ⟨V.at_, fun i hi => ?_, V.bd, V.len⟩
      have vb := h.vb t ht (by omega)
      rw [← V.cell i hi]
      refine World.cell?_of_block ?_
      exact keep _ (V.lt (by omega)) vb.1 (vb.2 u hu)
  · by_cases e : t = u
    · subst e
      simp only [M4.put, put4_at]
      intro h0
      refine ⟨(hbv h0).1, fun v hv => ?_⟩
      by_cases e2 : v = t
      · subst e2; simp only [put4_at]; exact (hbv h0).2.1
      · simp only [put4_ne e2]; exact (hbv h0).2.2 v hv e2
    · simp only [M4.put, put4_ne e]
      intro h0
      refine ⟨(h.vb t ht h0).1, fun v hv => ?_⟩
      by_cases e2 : v = u
      · subst e2; simp only [put4_at]; exact hpB t ht e h0
      · simp only [put4_ne e2]; exact (h.vb t ht h0).2 v hv
  · by_cases e : t = u
    · subst e; simp only [M4.put, put4_at]; exact nil
    · simp only [M4.put, put4_ne e]; exact h.nil t ht
  · by_cases e : t = u
    · subst e; simp only [M4.put, put4_at]; exact hn
    · simp only [M4.put, put4_ne e]; exact Nat.le_trans (h.len t ht) hT
theorem row_put {w : World} {g ty n : Nat} {f : Nat → Value} (h : w.rowIs g ty n f) (i : Nat) (v : Value) : (w.setCell ⟨g, i, none⟩ v).rowIs g ty n (put4 f i v) := h.set i v

/-- the first k states -/
structure I4 (w wr : World) (gs k : Nat) (P : Nat → Nat) : Prop where
  below : Below w.heap.size w wr
  lo : w.heap.size ≤ gs
  rs : wr.rowIs gs 45 4 (fun t => if t < k then .pointer (some ⟨P t, 0, none⟩) else .pointer none)
  rb : wr.rowIs (gs + 1) 46 4 (fun _ => .slice none 0 0)
  st : ∀ t, t < k → St wr (P t) 0 (fun _ => 0)
  pf : ∀ t, t < k → gs + 2 ≤ P t
  inj : ∀ t u, t < k → u < k → t ≠ u → P t ≠ P u
theorem I4.next {w wr w1 : World} {gs k : Nat} {P : Nat → Nat} (h : I4 w wr gs k P) (hb : Below wr.heap.size wr w1) (hs : St w1 wr.heap.size 0 (fun _ => 0)) : I4 w (w1.setCell ⟨gs, k, none⟩ (.pointer (some ⟨wr.heap.size, 0, none⟩))) gs (k + 1) (put4 P k wr.heap.size) := by
  have sv : Save gs w1 (w1.setCell ⟨gs, k, none⟩ (.pointer (some ⟨wr.heap.size, 0, none⟩))) := (Save.refl _ _).setCell _ _
  have l1 := h.rb.lt
  have b1 : Below w.heap.size w w1 := h.below.trans (hb.mono h.below.size)
  have old : ∀ t, t < k → P t < wr.heap.size := fun t ht => (h.st t ht).lt
  refine ⟨b1.trans (sv.below h.lo b1.size), h.lo, ((h.rs.of_block (hb.block _ h.rs.lt)).set k _).congr (fun t _ => ?_), sv.row (h.rb.of_block (hb.block _ l1)) (by omega), fun t ht => ?_, fun t ht => ?_, fun t u ht hu htu => ?_⟩
  · by_cases e : t = k
    · subst e
      rw [if_pos rfl, if_pos (by omega), put4_at]
    · rw [if_neg e, put4_ne e]
      by_cases l : t < k
      · rw [if_pos l, if_pos (by omega)]
      · rw [if_neg l, if_neg (by omega)]
  · by_cases e : t = k
    · subst e
      rw [put4_at]
      exact hs.save sv (by omega)
    · rw [put4_ne e]
      have f := h.pf t (by omega)
      exact ((h.st t (by omega)).below hb).save sv (by omega)
  · by_cases e : t = k
    · subst e; rw [put4_at]; omega
    · rw [put4_ne e]; exact h.pf t (by omega)
  · by_cases e : t = k
    · subst e
      rw [put4_at, put4_ne (fun h => htu h.symm)]
      have := old u (by omega)
      omega
    · by_cases e2 : u = k
      · subst e2
        rw [put4_at, put4_ne e]
        have := old t (by omega)
        omega
      · rw [put4_ne e, put4_ne e2]
        exact h.inj t u (by omega) (by omega) htu
theorem I4.done {w wr : World} {gs : Nat} {P : Nat → Nat} (h : I4 w wr gs 4 P) : F4 w wr gs 0 ⟨P, fun _ => 0, fun _ _ => 0, fun _ => none, fun _ => 0, fun _ => 0, fun _ => 0⟩ :=
  ⟨h.below, h.lo, h.rs.congr (fun t ht => by rw [if_pos ht]; rfl), h.rb, h.st, h.pf, h.inj, fun t _ => view_empty _ _ _ _ _ _ rfl, fun t _ h0 => absurd h0 (by show ¬ 0 < 0; omega), fun _ _ _ => rfl, fun _ _ => Nat.le_refl _⟩
end Go.Proofs.YtdhenfepfkmhhaaDoor
