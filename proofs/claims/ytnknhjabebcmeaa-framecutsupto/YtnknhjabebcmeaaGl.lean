/-
  Lists that grow: of lists of bytes, each in a block of its own; of numbers.
-/
import Derived.Test.YtnknhjabebcmeaaRf
namespace Go.Proofs.Ytnknhjabebcmeaa
open Go.RowKit

theorem info3 : (Try.prog.info? 3).map (fun i => (i.zero, i.size, i.bytes)) = some (some (.int .i64 0), 1, 8) := by kernel_rfl

/-- A LIST OF LISTS, each in a block of its own, all at B or behind it. -/
structure Gl (w : World) (B : Nat) (v : Value) (Us : List Value) (L : List (List Nat)) : Prop where
  own : w.ownsRow B 23 1 v L.length Us
  str : ∀ (i : Nat) (u : Value), Us[i]? = some u → ∃ s : List Nat, L[i]? = some s ∧ OwnT w B u s.length (bv s) ∧ (∀ x ∈ s, x < 256) ∧ s.length ≤ 140737488351232
  sep : Us.Pairwise Sep
theorem Gl.len {w : World} {B : Nat} {v : Value} {Us : List Value} {L : List (List Nat)} (h : Gl w B v Us L) : Us.length = L.length := by
  have := h.own.1
  omega
theorem Gl.nil (w : World) (B : Nat) : Gl w B (.slice none 0 0) [] [] := ⟨World.ownsRow_nil _ _ _ _, (fun i u hu => by cases hu), List.Pairwise.nil⟩
theorem Gl.stw {w : World} {B : Nat} {v : Value} {Us : List Value} {L : List (List Nat)} (h : Gl w B v Us L) : ∀ u ∈ Us, ∃ s, Stw w u s ∧ s.length ≤ 140737488351232 := fun u hu => by
  obtain ⟨i, hi, rfl⟩ := List.getElem_of_mem hu
  obtain ⟨s, _, h1, h2, h3⟩ := h.str i _ (List.getElem?_eq_getElem hi)
  exact ⟨s, ⟨h1.base (Nat.zero_le _), ⟨by omega, h2⟩⟩, h3⟩
theorem Gl.lo {w : World} {B : Nat} {v : Value} {Us : List Value} {L : List (List Nat)} (h : Gl w B v Us L) : ∀ u ∈ Us, ∀ g, u.ownBlock = some g → B ≤ g ∧ g < w.heap.size := fun u hu g hg => by
  obtain ⟨i, hi, rfl⟩ := List.getElem_of_mem hu
  obtain ⟨s, _, h1, _⟩ := h.str i _ (List.getElem?_eq_getElem hi)
  exact h1.lt g hg
theorem Gl.turn {F : Nat → Prop} {w w' : World} {B : Nat} {v : Value} {Us : List Value} {L : List (List Nat)} (h : Gl w B v Us L) (t : Turn F w w') (hv : ∀ g, v.ownBlock = some g → ¬ F g) (hu : ∀ u ∈ Us, ∀ g, u.ownBlock = some g → ¬ F g) : Gl w' B v Us L :=
  ⟨own_turn h.own t hv, fun i u hi => by
    obtain ⟨s, h0, h1, h2, h3⟩ := h.str i u hi
    exact ⟨s, h0, h1.turn t (hu u (List.mem_of_getElem? hi)), h2, h3⟩, h.sep⟩
theorem Gl.below {w w' : World} {B : Nat} {v : Value} {Us : List Value} {L : List (List Nat)} (h : Gl w B v Us L) (k : Below w.heap.size w w') : Gl w' B v Us L := h.turn (Turn.of_below (F := fun _ => False) k) (fun _ _ q => q) (fun _ _ _ _ q => q)
/-- a block of another kind is none of theirs -/
theorem Gl.other {w w' : World} {B : Nat} {v : Value} {Us : List Value} {L : List (List Nat)} {g : Nat} {cs : Array Value} {e : TypeId} {fz : Nat × Nat} (h : Gl w B v Us L) (hg : w.heap[g]? = some (.cells cs e fz)) (h5 : e ≠ 5) (hB : e ≠ 23) (t : Turn (fun i => i = g) w w') : Gl w' B v Us L :=
  h.turn t (fun g' hg' z => by
    subst z
    exact own_ne_cells h.own hg hB hg') (fun u hu g' hg' z => by
    subst z
    obtain ⟨s, h1, _⟩ := h.stw u hu
    exact h1.ne hg h5 hg')
/-- one more -/
theorem Gl.push {w w1 w' : World} {B : Nat} {v v' u : Value} {Us : List Value} {L : List (List Nat)} {s : List Nat} {o : Obj} (h : Gl w B v Us L) (hB : B ≤ w.heap.size) (a : AnT w w1 u s)
    (own' : w'.ownsRow B 23 1 v' (L.length + 1) (Us ++ [u])) (gr : (w1.alloc o).grownBy w' v.ownBlock) : Gl w' B v' (Us ++ [u]) (L ++ [s]) := by
  have k1 : Below w.heap.size w (w1.alloc o) := a.below.alloc a.below.size _
  have h1 := h.below k1
  have t : Turn (fun i => v.ownBlock = some i) (w1.alloc o) w' := Turn.of_grown gr (fun k e => e)
  have nv : ∀ (y : Value) (s : List Nat), Stw (w1.alloc o) y s → ∀ g, y.ownBlock = some g → ¬ v.ownBlock = some g := fun y s hy g hg z => by
    obtain ⟨cur, hc⟩ := own_block h1.own z
    exact hy.ne hc (by decide) hg
  have au : OwnT (w1.alloc o) w.heap.size u s.length (bv s) := a.own.below ((Below.refl _ _).alloc (Nat.le_refl _) _)
  refine ⟨by rw [List.length_append]; exact own', fun i y hi => ?_, ?_⟩
  · rcases Nat.lt_or_ge i Us.length with q | q
    · rw [List.getElem?_append_left q] at hi
      obtain ⟨r, h0, h2, h3, h4⟩ := h1.str i y hi
      have ls := h.len
      exact ⟨r, by rw [List.getElem?_append_left (by omega)]; exact h0, h2.turn t (nv y r ⟨h2.base (Nat.zero_le _), ⟨by omega, h3⟩⟩), h3, h4⟩
    · have e : i = Us.length := by
        have := (List.getElem?_eq_some_iff.1 hi).1
        simp at this
        omega
      subst e
      rw [List.getElem?_append_right (Nat.le_refl _)] at hi
      simp at hi
      subst hi
      have ls := h.len
      refine ⟨s, by rw [ls, List.getElem?_append_right (Nat.le_refl _)]; simp, (au.base hB).turn t (nv u s ⟨au.base (Nat.zero_le _), ⟨by have := a.len; omega, a.byt⟩⟩), a.byt, a.len⟩
  · rw [List.pairwise_append]
    refine ⟨h.sep, List.pairwise_singleton _ _, fun x hx y hy => ?_⟩
    simp at hy
    subst hy
    intro g h2 h3
    have := (h.lo x hx g h2).2
    have := (a.own.lt g h3).1
    omega
/-- all of them are seen -/
theorem Gl.vb {w : World} {B : Nat} {v : Value} {Us : List Value} {L : List (List Nat)} (h : Gl w B v Us L) (i : Nat) (s : List Nat) (hs : L[i]? = some s) : ∃ u, Us[i]? = some u ∧ Vb w u s := by
  have hi : i < Us.length := by
    rw [h.len]
    exact (List.getElem?_eq_some_iff.1 hs).1
  obtain ⟨t, h0, h1, h2, h3⟩ := h.str i _ (List.getElem?_eq_getElem hi)
  have : t = s := by rw [hs] at h0; exact (Option.some.inj h0).symm
  subst this
  exact ⟨_, List.getElem?_eq_getElem hi, stw_vb ⟨h1.base (Nat.zero_le _), ⟨by omega, h2⟩⟩ h3⟩

/-! ### numbers -/
def iv (N : List Nat) : List Value := N.map (fun x : Nat => Value.int .i64 (x : Int))
theorem iv_len (N : List Nat) : (iv N).length = N.length := by simp [iv]
theorem iv_at {N : List Nat} {i : Nat} (h : i < N.length) : (iv N)[i]? = some (.int .i64 (gd N i : Nat)) := by
  unfold iv
  rw [List.getElem?_map, List.getElem?_eq_getElem h, gd_get h]
  rfl
theorem iv_one {N : List Nat} : ∀ u ∈ iv N, u.oneCell' = true := by
  intro u hu
  obtain ⟨i, _, rfl⟩ := List.mem_map.1 hu
  rfl
/-- A LIST OF NUMBERS in a block of its own. -/
abbrev Gi (w : World) (B : Nat) (v : Value) (N : List Nat) : Prop := w.ownsRow B 3 1 v N.length (iv N)
theorem gi_below {w w' : World} {B : Nat} {v : Value} {N : List Nat} (h : Gi w B v N) (k : Below w.heap.size w w') : Gi w' B v N := own_turn h (Turn.of_below (F := fun _ => False) k) (fun _ _ q => q)
end Go.Proofs.Ytnknhjabebcmeaa
