/-
  A list of bytes in a row of its own, or the first of one, cut off behind them.
-/
import Derived.Test.YtnknhjabebcmeaaApt
namespace Go.Proofs.Ytnknhjabebcmeaa
open Go.RowKit

/-- THE VALUE v HAS n BYTES IN A BLOCK OF ITS OWN: its room is the block, or ends behind them. -/
def OwnT (w : World) (B : Nat) (v : Value) (n : Nat) (xs : List Value) : Prop :=
  xs.length = n ∧ ((v = .slice none 0 0 ∧ n = 0) ∨ ∃ g cap S f, v = .slice (some ⟨g, 0, none⟩) n cap ∧ B ≤ g ∧ w.rowIs g 5 S f ∧ n ≤ cap ∧ cap ≤ maxLen ∧ (cap = S ∨ (cap = n ∧ n ≤ S)) ∧ ∀ i, i < n → xs[i]? = some (f i))
theorem OwnT.of_own {w : World} {B n : Nat} {v : Value} {xs : List Value} (h : w.ownsRow B 5 1 v n xs) : OwnT w B v n xs := by
  refine ⟨by have := h.1; omega, ?_⟩
  rcases h.2 with ⟨rfl, h0⟩ | ⟨g, cap, cur, rfl, hB, _⟩
  · exact Or.inl ⟨rfl, h0⟩
  · obtain ⟨⟨f, r, hf⟩, h1, h2, h3⟩ := own_row h
    exact Or.inr ⟨g, cap, cap, f, rfl, h3, r, h1, h2, Or.inl rfl, hf⟩
theorem OwnT.tight {w : World} {B n g cap : Nat} {xs : List Value} (h : w.ownsRow B 5 1 (.slice (some ⟨g, 0, none⟩) n cap) n xs) : OwnT w B (.slice (some ⟨g, 0, none⟩) n n) n xs := by
  obtain ⟨⟨f, r, hf⟩, h1, h2, h3⟩ := own_row h
  exact ⟨by have := h.1; omega, Or.inr ⟨g, n, cap, f, rfl, h3, r, Nat.le_refl _, by omega, Or.inr ⟨rfl, h1⟩, hf⟩⟩
theorem OwnT.lt {w : World} {B n : Nat} {v : Value} {xs : List Value} (h : OwnT w B v n xs) : ∀ g, v.ownBlock = some g → B ≤ g ∧ g < w.heap.size := by
  rcases h.2 with ⟨rfl, _⟩ | ⟨g, cap, S, f, rfl, hB, r, _⟩
  · intro g hg; cases hg
  · intro g' hg
    have := Option.some.inj hg
    subst this
    exact ⟨hB, r.lt⟩
theorem OwnT.slice {w : World} {B n : Nat} {v : Value} {xs : List Value} (h : OwnT w B v n xs) : ∃ a c, v = .slice a n c := by
  rcases h.2 with ⟨rfl, h0⟩ | ⟨g, cap, S, f, rfl, _⟩
  · exact ⟨none, 0, by rw [h0]⟩
  · exact ⟨_, _, rfl⟩
theorem OwnT.form {w : World} {B n : Nat} {v : Value} {xs : List Value} (h : OwnT w B v n xs) (hn : 0 < n) : ∃ g cap, v = .slice (some ⟨g, 0, none⟩) n cap ∧ B ≤ g ∧ g < w.heap.size ∧ n ≤ cap := by
  rcases h.2 with ⟨_, h0⟩ | ⟨g, cap, S, f, rfl, hB, r, h1, _⟩
  · omega
  · exact ⟨g, cap, rfl, hB, r.lt, h1⟩
theorem OwnT.row {w : World} {B n g cap : Nat} {xs : List Value} (h : OwnT w B (.slice (some ⟨g, 0, none⟩) n cap) n xs) : ∃ S f, w.rowIs g 5 S f ∧ n ≤ S ∧ n ≤ cap ∧ ∀ i, i < n → xs[i]? = some (f i) := by
  rcases h.2 with ⟨h0, _⟩ | ⟨g', cap', S, f, e, hB, r, h1, h2, h3, h4⟩
  · cases h0
  · injection e with e1 _ e3
    injection e1 with e1
    injection e1 with e1
    subst e1
    subst e3
    exact ⟨S, f, r, by omega, h1, h4⟩
theorem OwnT.cell {w : World} {B n g cap : Nat} {xs : List Value} (h : OwnT w B (.slice (some ⟨g, 0, none⟩) n cap) n xs) {i : Nat} {u : Value} (hu : xs[i]? = some u) : w.cell? ⟨g, i, none⟩ = some u := by
  obtain ⟨S, f, r, h1, _, h2⟩ := h.row
  have hi : i < n := by
    have := h.1
    have := (List.getElem?_eq_some_iff.1 hu).1
    omega
  rw [r.cell (i := i) (by omega), ← h2 i hi, hu]
theorem OwnT.turn {F : Nat → Prop} {w w' : World} {B n : Nat} {v : Value} {xs : List Value} (h : OwnT w B v n xs) (t : Turn F w w') (hv : ∀ g, v.ownBlock = some g → ¬ F g) : OwnT w' B v n xs := by
  refine ⟨h.1, ?_⟩
  rcases h.2 with q | ⟨g, cap, S, f, rfl, hB, r, q⟩
  · exact Or.inl q
  · exact Or.inr ⟨g, cap, S, f, rfl, hB, r.of_block (t.block g r.lt (hv g rfl)), q⟩
theorem OwnT.below {w w' : World} {B n : Nat} {v : Value} {xs : List Value} (h : OwnT w B v n xs) (k : Below w.heap.size w w') : OwnT w' B v n xs := h.turn (Turn.of_below (F := fun _ => False) k) (fun _ _ q => q)
theorem OwnT.base {w : World} {B C n : Nat} {v : Value} {xs : List Value} (h : OwnT w B v n xs) (hc : C ≤ B) : OwnT w C v n xs := by
  refine ⟨h.1, ?_⟩
  rcases h.2 with q | ⟨g, cap, S, f, rfl, hB, q⟩
  · exact Or.inl q
  · exact Or.inr ⟨g, cap, S, f, rfl, Nat.le_trans hc hB, q⟩
theorem OwnT.block {w : World} {B n : Nat} {v : Value} {xs : List Value} (h : OwnT w B v n xs) {g : Nat} (hv : v.ownBlock = some g) : ∃ cur, w.heap[g]? = some (.cells cur 5 (0, 0)) := by
  rcases h.2 with ⟨rfl, _⟩ | ⟨g', cap, S, f, rfl, _, r, _⟩
  · cases hv
  · have := Option.some.inj hv
    subst this
    obtain ⟨c, hc, _⟩ := r
    exact ⟨c, hc⟩
/-- its room is the whole block, or it is full -/
theorem OwnT.either {w : World} {B n : Nat} {v : Value} {xs : List Value} (h : OwnT w B v n xs) : w.ownsRow B 5 1 v n xs ∨ ∃ g, v = .slice (some ⟨g, 0, none⟩) n n := by
  rcases h.2 with ⟨rfl, h0⟩ | ⟨g, cap, S, f, rfl, hB, r, h1, h2, h3, h4⟩
  · exact Or.inl ⟨by have := h.1; omega, Or.inl ⟨rfl, h0⟩⟩
  · rcases h3 with rfl | ⟨rfl, h3⟩
    · exact Or.inl (row_own r hB h1 h2 xs h.1 h4)
    · exact Or.inr ⟨g, rfl⟩

/-- A STRING THAT LIES SO. -/
structure Stw (w : World) (u : Value) (s : List Nat) : Prop where
  own : OwnT w 0 u s.length (bv s)
  ok : Bs s
theorem Str.stw {w : World} {F : Nat → Prop} {u : Value} {s : List Nat} (h : Str w F u s) : Stw w u s := ⟨OwnT.of_own h.own, h.ok⟩
theorem Stw.turn {F : Nat → Prop} {w w' : World} {u : Value} {s : List Nat} (h : Stw w u s) (t : Turn F w w') (hd : ∀ g, u.ownBlock = some g → ¬ F g) : Stw w' u s := ⟨h.own.turn t hd, h.ok⟩
theorem Stw.below {w w' : World} {u : Value} {s : List Nat} (h : Stw w u s) (k : Below w.heap.size w w') : Stw w' u s := ⟨h.own.below k, h.ok⟩
theorem Stw.ne {w : World} {u : Value} {s : List Nat} (h : Stw w u s) {g : Nat} {cs : Array Value} {t : TypeId} {fz : Nat × Nat} (hg : w.heap[g]? = some (.cells cs t fz)) (ht : t ≠ 5) : u.ownBlock ≠ some g := by
  intro e
  obtain ⟨cur, hc⟩ := h.own.block e
  rw [hg] at hc
  injection hc with hc
  injection hc with _ h2
  exact ht h2
theorem Stw.one {w : World} {u : Value} {s : List Nat} (h : Stw w u s) : u.oneCell' = true := by
  obtain ⟨a, c, rfl⟩ := h.own.slice
  rfl
theorem Stw.set {w : World} {g cap : Nat} {s : List Nat} (h : Stw w (.slice (some ⟨g, 0, none⟩) s.length cap) s) (c m : Nat) (hm : m < 256) : Stw (w.setCell ⟨g, c, none⟩ (.int .u8 (m : Nat))) (.slice (some ⟨g, 0, none⟩) s.length cap) (s.set c m) := by
  refine ⟨⟨by rw [bv_len], ?_⟩, ⟨by rw [List.length_set]; exact h.ok.1, fun x hx => ?_⟩⟩
  · rw [List.length_set]
    rcases h.own.2 with ⟨h0, _⟩ | ⟨g', cap', S, f, e, hB, r, h1, h2, h3, h4⟩
    · cases h0
    · injection e with e1 _ e3
      injection e1 with e1
      injection e1 with e1
      subst e1
      subst e3
      refine Or.inr ⟨g, cap, S, _, rfl, hB, r.set c _, h1, h2, h3, fun i hi => ?_⟩
      have q := h4 i hi
      unfold bv at q ⊢
      rw [List.map_set, List.getElem?_set]
      by_cases e : c = i
      · subst e
        rw [if_pos rfl, if_pos (by simpa using hi), if_pos rfl]
      · rw [if_neg e, if_neg (fun z => e z.symm)]
        exact q
  · rcases List.mem_or_eq_of_mem_set hx with q | q
    · exact h.ok.2 x q
    · rw [q]; exact hm
end Go.Proofs.Ytnknhjabebcmeaa
