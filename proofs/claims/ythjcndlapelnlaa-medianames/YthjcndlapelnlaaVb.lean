/-
  Bytes handed in, bytes handed out.
-/
import Derived.Test.YthjcndlapelnlaaApt
namespace Go.Proofs.Ythjcndlapelnlaa
open Go.RowKit

/-- THE VALUE v IS A LIST OF THE BYTES s. -/
def Vb (w : World) (v : Value) (s : List Nat) : Prop := ∃ a b off c, v = .slice a s.length c ∧ Vw w a b off s ∧ s.length ≤ c ∧ (a = none → c = 0) ∧ s.length ≤ 140737488351232
theorem Vb.keep {w w' : World} {v : Value} {s : List Nat} (h : Vb w v s) (k : Below w.heap.size w w') : Vb w' v s := by
  obtain ⟨a, b, off, c, rfl, hv, r⟩ := h
  exact ⟨a, b, off, c, rfl, hv.below k, r⟩
/-- WHAT IS HANDED OUT: bytes in a new block, or nil; all that was there is as it was. -/
structure Ans (w w' : World) (v : Value) (s : List Nat) : Prop where
  own : w'.ownsRow w.heap.size 5 1 v s.length (bv s)
  byt : ∀ x ∈ s, x < 256
  len : s.length ≤ 140737488351232
  below : Below w.heap.size w w'
theorem Ans.view {w w' : World} {v : Value} {s : List Nat} (h : Ans w w' v s) : ∃ a g c, v = .slice a s.length c ∧ Vw w' a g 0 s ∧ s.length ≤ c ∧ (a = none → c = 0) := by
  rcases h.own.2 with ⟨rfl, h0⟩ | ⟨g, cap, cur, rfl, hb, hg, h1, h2, h3, h4⟩
  · exact ⟨none, 0, 0, by rw [h0], ⟨fun k => by omega, fun i hi => by omega, fun i hi => by omega, by omega⟩, by omega, fun _ => rfl⟩
  · refine ⟨_, g, cap, rfl, ⟨fun _ => rfl, fun i hi => ?_, fun i hi => ?_, by have := h.len; omega⟩, h1, fun z => by cases z⟩
    · have := h.own.cells (g := g) rfl i _ (bv_at hi)
      rw [show (⟨g, 0, none⟩ : Addr).add i = ⟨g, 0 + i, none⟩ by unfold Addr.add; split <;> simp_all] at this
      exact this
    · have := gd_lt h.byt i
      omega
theorem Ans.vb {w w' : World} {v : Value} {s : List Nat} (h : Ans w w' v s) : Vb w' v s := by
  obtain ⟨a, g, c, e, hv, h1, h2⟩ := h.view
  exact ⟨a, g, 0, c, e, hv, h1, h2, h.len⟩
theorem Ans.str {w w' : World} {v : Value} {s : List Nat} (h : Ans w w' v s) : Str w' (fun i => w.heap.size ≤ i ∧ i < w'.heap.size) v s := ⟨own_base h.own, fun g hg => h.own.lt g hg, ⟨by have := h.len; omega, h.byt⟩⟩
theorem Ans.form {w w' : World} {v : Value} {s : List Nat} (h : Ans w w' v s) : ∃ a c, v = .slice a s.length c := own_slice h.own
theorem ans_nil {w w' : World} (h : Below w.heap.size w w') : Ans w w' (.slice none 0 0) [] := ⟨⟨rfl, Or.inl ⟨rfl, rfl⟩⟩, fun x hx => (by cases hx), by simp, h⟩

/-- A NEW ROW OF n BYTES, the first block behind what was there; all that was there is as it was. -/
structure NewRow (w w' : World) (n : Nat) (Y : Nat → Nat) : Prop where
  row : w'.rowIs w.heap.size 5 n (fun i => .int .u8 ((Y i : Nat) : Int))
  below : Below w.heap.size w w'
  size : w'.heap.size = w.heap.size + 1
theorem NewRow.made (w : World) (n : Nat) : NewRow w (w.alloc (.cells (madeCells #[.int .u8 0] n) 5)) n (fun _ => 0) :=
  ⟨World.rowIs_made w _ n 5, (Below.refl _ _).alloc (Nat.le_refl _) _, by simp⟩
theorem NewRow.set {w w' : World} {n : Nat} {Y : Nat → Nat} (h : NewRow w w' n Y) (i : Nat) (v : Nat) : NewRow w (w'.setCell ⟨w.heap.size, i, none⟩ (.int .u8 (v : Nat))) n (fun j => if j = i then v else Y j) :=
  ⟨(h.row.set i _).congr (fun j _ => by split <;> rfl), h.below.setCell (Nat.le_refl _) _, by simp [h.size]⟩
theorem below_drewN {B : Nat} {w w' : World} (h : Below B w w') (q : Nat) : Below B w (w'.drewN q) := ⟨h.os, h.tape, h.output, h.size, fun k hk => h.block k hk⟩
theorem NewRow.drewN {w w' : World} {n : Nat} {Y : Nat → Nat} (h : NewRow w w' n Y) (q : Nat) : NewRow w (w'.drewN q) n Y := ⟨h.row.of_block rfl, below_drewN h.below q, h.size⟩
theorem NewRow.drew {w w' : World} {n : Nat} {Y : Nat → Nat} (h : NewRow w w' n Y) : NewRow w w'.drew n Y := ⟨h.row.of_block rfl, below_drewN h.below 1, h.size⟩
theorem NewRow.congr {w w' : World} {n : Nat} {Y X : Nat → Nat} (h : NewRow w w' n Y) (e : ∀ i, i < n → Y i = X i) : NewRow w w' n X :=
  ⟨h.row.congr (fun i hi => by rw [e i hi]), h.below, h.size⟩
theorem NewRow.ans {w w' : World} {n : Nat} {Y : Nat → Nat} (h : NewRow w w' n Y) (hb : ∀ i, i < n → Y i < 256) (hn : n ≤ 140737488351232) : Ans w w' (.slice (some ⟨w.heap.size, 0, none⟩) n n) (lst n Y) := by
  refine ⟨?_, fun x hx => ?_, by rw [lst_len]; exact hn, h.below⟩
  · rw [lst_len]
    refine row_own h.row (Nat.le_refl _) (Nat.le_refl _) (by unfold maxLen; omega) _ (by rw [bv_len, lst_len]) (fun i hi => ?_)
    rw [bv_at (by rw [lst_len]; exact hi), lst_gd hi]
  · unfold lst at hx
    obtain ⟨i, hi, rfl⟩ := List.mem_map.1 hx
    exact hb i (by simpa using hi)
end Go.Proofs.Ythjcndlapelnlaa
