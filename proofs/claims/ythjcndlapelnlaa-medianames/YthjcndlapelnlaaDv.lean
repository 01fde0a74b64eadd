/-
  A device's block; (*Device).time, next; mayBe; (deed).to.
-/
import Derived.Test.YthjcndlapelnlaaBs
namespace Go.Proofs.Ythjcndlapelnlaa
open Go.RowKit

/-- what a device's block holds, but for the register -/
structure Dvf where
  sl : Int
  rm : Int
  bl : Value
  lg : Value
  c : Int
  tag : List Nat
  dn : Bool
  ch : Value
  ac : Value
  ve : Value
  st : Value
  ls : Value
  tc : Value
def Dvf.cells (d : Dvf) : List Value := dvc d.sl d.rm d.bl d.lg d.c d.tag d.dn d.ch d.ac d.ve d.st d.ls d.tc
/-- THE BLOCK g IS THE DEVICE d. -/
structure Db (w : World) (g : Nat) (d : Dvf) : Prop where
  blk : w.heap[g]? = some (.cells d.cells.toArray 72 (0, 0))
  tag : d.tag.length = 32
theorem Db.rng {w : World} {g : Nat} {d : Dvf} (h : Db w g d) : w.rangeAt g 0 d.cells := rng_row h.blk
theorem Db.lt {w : World} {g : Nat} {d : Dvf} (h : Db w g d) : g < w.heap.size := (Array.getElem?_eq_some_iff.1 h.blk).1
theorem Db.keep {w w' : World} {g : Nat} {d : Dvf} (h : Db w g d) (k : Below w.heap.size w w') : Db w' g d := ⟨(k.block g h.lt).trans h.blk, h.tag⟩
theorem Db.turn {F : Nat → Prop} {w w' : World} {g : Nat} {d : Dvf} (h : Db w g d) (k : Turn F w w') (hg : ¬ F g) : Db w' g d := ⟨(k.block g h.lt hg).trans h.blk, h.tag⟩
theorem Db.at_ {w : World} {g : Nat} {d : Dvf} (h : Db w g d) :
    w.cell? ⟨g, 0, none⟩ = some (.int .i64 d.sl) ∧ w.cell? ⟨g, 1, none⟩ = some (.int .i64 d.rm) ∧ w.cell? ⟨g, 2, none⟩ = some d.bl ∧ w.cell? ⟨g, 3, none⟩ = some d.lg ∧ w.cell? ⟨g, 4, none⟩ = some (.int .i64 d.c) ∧
    w.cell? ⟨g, 37, none⟩ = some (.bool d.dn) ∧ w.cell? ⟨g, 38, none⟩ = some d.ch ∧ w.cell? ⟨g, 39, none⟩ = some d.ac ∧ w.cell? ⟨g, 40, none⟩ = some d.ve ∧ w.cell? ⟨g, 41, none⟩ = some d.st ∧ w.cell? ⟨g, 42, none⟩ = some d.ls ∧ w.cell? ⟨g, 43, none⟩ = some d.tc := by
  have hr : w.rangeAt g 0 ([.int .i64 d.sl, .int .i64 d.rm, d.bl, d.lg] ++ (rgc d.c d.tag ++ [.bool d.dn, d.ch, d.ac, d.ve, d.st, d.ls, d.tc])) := h.rng
  have h1 := rng_left hr
  have h2 := rng_right hr
  have h3 := rng_left h2
  have h4 := rng_right h2
  rw [rgc_len h.tag] at h4
  exact ⟨h1 0 _ rfl, h1 1 _ rfl, h1 2 _ rfl, h1 3 _ rfl, h3 0 _ rfl, h4 0 _ rfl, h4 1 _ rfl, h4 2 _ rfl, h4 3 _ rfl, h4 4 _ rfl, h4 5 _ rfl, h4 6 _ rfl⟩

set_option maxRecDepth 100000 in
set_option maxHeartbeats 800000 in
theorem time_any {w : World} {g : Nat} {d : Dvf} (h : Db w g d) {a : Option Addr} {n c : Nat} (hl : d.ls = .slice a n c) :
    Calls Try.prog 64 #[.pointer (some ⟨g, 0, none⟩)] w fun e w' => e = .returned (.int .i64 (n : Int)) ∧ w' = w := by
  obtain ⟨c0, c1, c2, c3, c4, c5, c6, c7, c8, c9, c10, c11⟩ := h.at_
  rw [hl] at c10
  clear h hl c0 c1 c2 c3 c4 c5 c6 c7 c8 c9 c11
  go_enter Try.func64, Try.ntmps64
  go_wp2_with fail
  go_ret
  exact ⟨rfl, rfl⟩
/-- which of a choice's four does an access of a kind -/
def toB {α : Type} (k : Int) (x0 x1 x2 x3 : α) : α := if k = 1 ∨ k = 4 ∨ k = 5 then x0 else if k = 2 ∨ k = 6 then x1 else if k = 3 ∨ k = 7 ∨ k = 8 then x2 else x3
set_option maxRecDepth 100000 in
set_option maxHeartbeats 1600000 in
theorem to_any (w : World) (k : Int) (x0 x1 x2 x3 : Value) :
    Calls Try.prog 42 #[.agg #[x0, x1, x2, x3], .int .i64 k] w fun e w' => e = .returned (toB k x0 x1 x2 x3) ∧ Below w.heap.size w w' := by
  have HB : Hid (∀ (x : Obj), Below w.heap.size w (w.alloc x)) := fun x => (Below.refl w.heap.size w).alloc (Nat.le_refl _) x
  by_cases h1 : k = 1
  · subst h1
    go_enter Try.func42, Try.ntmps42
    go_wp2_with fail
    go_ret
    exact ⟨rfl, HB.out _⟩
  by_cases h4 : k = 4
  · subst h4
    go_enter Try.func42, Try.ntmps42
    go_wp2_with fail
    go_ret
    exact ⟨rfl, HB.out _⟩
  by_cases h5 : k = 5
  · subst h5
    go_enter Try.func42, Try.ntmps42
    go_wp2_with fail
    go_ret
    exact ⟨rfl, HB.out _⟩
  by_cases h2 : k = 2
  · subst h2
    go_enter Try.func42, Try.ntmps42
    go_wp2_with fail
    go_ret
    exact ⟨rfl, HB.out _⟩
  by_cases h6 : k = 6
  · subst h6
    go_enter Try.func42, Try.ntmps42
    go_wp2_with fail
    go_ret
    exact ⟨rfl, HB.out _⟩
  by_cases h3 : k = 3
  · subst h3
    go_enter Try.func42, Try.ntmps42
    go_wp2_with fail
    go_ret
    exact ⟨rfl, HB.out _⟩
  by_cases h7 : k = 7
  · subst h7
    go_enter Try.func42, Try.ntmps42
    go_wp2_with fail
    go_ret
    exact ⟨rfl, HB.out _⟩
  by_cases h8 : k = 8
  · subst h8
    go_enter Try.func42, Try.ntmps42
    go_wp2_with fail
    go_ret
    exact ⟨rfl, HB.out _⟩
  have e1 : (k == 1) = false := by simpa using h1
  have e2 : (k == 2) = false := by simpa using h2
  have e3 : (k == 3) = false := by simpa using h3
  have e4 : (k == 4) = false := by simpa using h4
  have e5 : (k == 5) = false := by simpa using h5
  have e6 : (k == 6) = false := by simpa using h6
  have e7 : (k == 7) = false := by simpa using h7
  have e8 : (k == 8) = false := by simpa using h8
  have HE : Hid (toB k x0 x1 x2 x3 = x3) := by
    show toB k x0 x1 x2 x3 = x3
    unfold toB
    rw [if_neg (by omega), if_neg (by omega), if_neg (by omega)]
  go_enter Try.func42, Try.ntmps42
  go_wp2_with fail
  go_ret
  exact ⟨by rw [HE.out]; rfl, HB.out _⟩
end Go.Proofs.Ythjcndlapelnlaa
