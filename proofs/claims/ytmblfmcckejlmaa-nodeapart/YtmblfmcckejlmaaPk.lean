/-
  path.isPath, path.Pack.
-/
import Derived.Test.YtmblfmcckejlmaaPVb
namespace Go.Proofs.Ytmblfmcckejlmaa
open Go.RowKit

set_option maxRecDepth 100000 in
set_option maxHeartbeats 800000 in
theorem isPath_any (w : World) (a : Option Addr) (b off c : Nat) (s : List Nat) (hv : Vw w a b off s) :
    Calls Try.prog 72 #[.slice a s.length c] w fun e w' => e = .returned (.bool (decide (IsP s))) ∧ w' = w := by
  have hn := hv.len
  by_cases hl : 64 < s.length
  · have e0 : decide (IsP s) = false := decide_eq_false (fun h => by have := h.1; omega)
    rw [e0]
    generalize s.length = n at *
    go_enter Try.func72, Try.ntmps72
    go_wp2_with fail
    go_ret
    exact ⟨rfl, rfl⟩
  · have HV : Hid (Vw w a b off s) := hv
    obtain ⟨n, en⟩ : ∃ n, n = s.length := ⟨_, rfl⟩
    have HE : Hid (n = s.length) := en
    rw [← en] at hn hl ⊢
    clear hv en
    go_enter Try.func72, Try.ntmps72
    go_wp2_with fail
    go_loopg [10] n (fun g i wr => ∃ k : Nat, k ≤ n ∧ g = n - k ∧ i = .int .i64 k ∧ (∀ i, i < k → gd s i ≤ 15) ∧ wr = w)
    case atStart => exact ⟨0, Nat.zero_le _, rfl, rfl, fun i hi => absurd hi (by omega), rfl⟩
    case round =>
      obtain ⟨k, hk, rfl, rfl, hs, rfl⟩ := hrel
      have HS : Hid (∀ i, i < k → gd s i ≤ 15) := hs
      clear hs
      by_cases hkn : k < n
      · have ek : k < s.length := by rw [← HE.out]; exact hkn
        obtain rfl := HV.out.at_ (by omega)
        have c1 := HV.out.cell k ek
        have i1 : (k : Int) < (n : Int) := by omega
        by_cases q : 15 < gd s k
        · have HQ : Hid (15 < gd s k) := q
          have q' : (15 : Int) < ((gd s k : Nat) : Int) := by omega
          generalize gd s k = z at c1 q q'
          clear ek
          go_wp2_with fail
          go_ret
          have e0 : decide (IsP s) = false := decide_eq_false (fun h => by have := h.2 k (by have := HE.out; omega); have := HQ.out; omega)
          exact ⟨by rw [e0]; rfl, rfl⟩
        · have HQ : Hid (gd s k ≤ 15) := by show gd s k ≤ 15; omega
          have q' : ¬ (15 : Int) < ((gd s k : Nat) : Int) := by omega
          generalize gd s k = z at c1 q q'
          clear ek
          go_wp2_with fail
          go_roundg (n - (k + 1))
          case measure => omega
          case rel => exact ⟨k + 1, by omega, rfl, by go_num, fun i hi => by by_cases ee : i = k; (subst ee; exact HQ.out); exact HS.out i (by omega), rfl⟩
      · have : k = n := by omega
        subst this
        go_wp2_with fail
        go_ret
        have e0 : decide (IsP s) = true := decide_eq_true ⟨by have := HE.out; omega, fun i hi => HS.out i (by have := HE.out; omega)⟩
        exact ⟨by rw [e0]; rfl, rfl⟩
theorem u8_same (x : Int) (h0 : 0 ≤ x) (h1 : x ≤ 255) : IntKind.u8.wrap x = x := by simp [IntKind.wrap, IntKind.bits, IntKind.signed]; omega

/-- what stands in the answer ahead of the loop's round k -/
def pkZ (leaf : Bool) (s : List Nat) (k i : Nat) : Nat := if i < 1 + k then pkY leaf s i else 0
theorem pkZ_step {w wr : World} {N k : Nat} {leaf : Bool} {s : List Nat} (h : NewRow w wr N (pkZ leaf s k)) {x : Int} (hx : x = ((pkY leaf s (1 + k) : Nat) : Int)) : NewRow w (wr.setCell ⟨w.heap.size, 1 + k, none⟩ (.int .u8 x)) N (pkZ leaf s (k + 1)) := by
  subst hx
  refine (h.set (1 + k) _).congr (fun i _ => ?_)
  unfold pkZ
  by_cases e : i = 1 + k
  · subst e
    rw [if_pos rfl, if_pos (by omega)]
  · rw [if_neg e]
    by_cases q : i < 1 + k
    · rw [if_pos q, if_pos (by omega)]
    · rw [if_neg q, if_neg (by omega)]
theorem pkZ_first {w wr : World} {N : Nat} {leaf : Bool} {s : List Nat} {Y : Nat → Nat} (h : NewRow w wr N Y) (h0 : Y 0 = pkY leaf s 0) (h1 : ∀ i, 0 < i → Y i = 0) : NewRow w wr N (pkZ leaf s 0) := h.congr (fun i _ => by
  unfold pkZ
  by_cases e : i = 0
  · subst e; rw [if_pos (by omega)]; exact h0
  · rw [if_neg (by omega)]; exact h1 i (by omega))
theorem new_first (w : World) (N : Nat) : NewRow w (w.alloc (.cells ((madeCells #[.int .u8 0] N).setIfInBounds 0 (.int .u8 32)) 5)) N (fun j => if j = 0 then 32 else 0) := by
  have e : (w.alloc (.cells (madeCells #[.int .u8 0] N) 5)).setCell ⟨w.heap.size, 0, none⟩ (.int .u8 32) = w.alloc (.cells ((madeCells #[.int .u8 0] N).setIfInBounds 0 (.int .u8 32)) 5) := World.setCell_alloc_new _ _ _ _
  rw [← e]
  exact (NewRow.made w N).set 0 32
end Go.Proofs.Ytmblfmcckejlmaa
