/-
  For Load of nothing: bytes.Clone of nil; a Device built; maps that are made one behind the other.
-/
import Derived.Test.YthjcndlapelnlaaNw
import Derived.Test.YthjcndlapelnlaaDv
namespace Go.Proofs.Ythjcndlapelnlaa
open Go.RowKit

set_option maxRecDepth 100000 in
set_option maxHeartbeats 800000 in
theorem bclone_nil (w : World) : Calls Try.prog 31 #[.slice none 0 0] w fun e w' => e = .returned (.slice none 0 0) ∧ w' = w := by
  have jn : ∀ u, (binOp .eql 29 (.slice none 0 0) (.slice none 0 0)).run Try.prog u = .ok (.bool true) u := fun u => Lib.run_eql_slice_nil u 29 5 none 0 0 0 0 Try.underlying29
  go_enter Try.func31, Try.ntmps31
  go_wp2_with fail
  go_ret
  exact ⟨rfl, rfl⟩
/-- a device that was just made -/
def dv0 (sl rm : Int) (m1 m2 m3 : Nat) (cu : Value) : Dvf := ⟨sl, rm, .map (some m1), nilS, 0, z32, false, cu, nilS, .map (some m2), .map (some m3), nilS, nilS⟩
set_option maxRecDepth 100000 in
theorem built72 (sl rm : Int) (m1 m2 m3 : Nat) (a : Option Addr) (n c : Nat) :
    Try.prog.built 72 [(0, .int .i64 sl), (1, .int .i64 rm), (2, .map (some m1)), (3, .slice none 0 0), (4, .agg (rgc 0 z32).toArray), (6, .slice a n c), (8, .map (some m2)), (9, .map (some m3))] = some (dv0 sl rm m1 m2 m3 (.slice a n c)).cells.toArray := by kernel_rfl
/-- THE BLOCKS ms ARE EMPTY MAPS, made since the world w. -/
structure Mps (w u : World) (ms : List Nat) : Prop where
  at_ : ∀ m ∈ ms, u.heap[m]? = some (.map #[] 0)
  nd : ms.Nodup
  ge : ∀ m ∈ ms, w.heap.size ≤ m
  below : Below w.heap.size w u
theorem Mps.lt {w u : World} {ms : List Nat} (h : Mps w u ms) : ∀ m ∈ ms, m < u.heap.size := fun m hm => (Array.getElem?_eq_some_iff.1 (h.at_ m hm)).1
theorem Mps.keep {w u u' : World} {ms : List Nat} (h : Mps w u ms) (k : Below u.heap.size u u') : Mps w u' ms :=
  ⟨fun m hm => (k.block m (h.lt m hm)).trans (h.at_ m hm), h.nd, h.ge, h.below.trans (k.mono h.below.size)⟩
theorem Mps.make {w u : World} {ms : List Nat} (h : Mps w u ms) : Mps w (u.alloc (.map #[] 0)) (u.heap.size :: ms) := by
  have k := h.keep ((Below.refl u.heap.size u).alloc (Nat.le_refl _) (.map #[] 0))
  refine ⟨fun m hm => ?_, List.nodup_cons.2 ⟨fun q => Nat.lt_irrefl _ (h.lt _ q), h.nd⟩, fun m hm => ?_, k.below⟩
  · rcases List.mem_cons.1 hm with rfl | hm
    · exact heap_alloc_new _ _
    · exact k.at_ m hm
  · rcases List.mem_cons.1 hm with rfl | hm
    · exact h.below.size
    · exact h.ge m hm
/-- a list of choices of its own, apart from what was made besides -/
structure Chu (w u : World) (ms : List Nat) (cu : Value) (C : List Cho) : Prop where
  own : Cho3 u w.heap.size cu C
  far : ∀ m ∈ ms, cu.ownBlock ≠ some m
theorem Chu.keep {w u u' : World} {ms : List Nat} {cu : Value} {C : List Cho} (h : Chu w u ms cu C) (k : Below u.heap.size u u') : Chu w u' ms cu C :=
  ⟨own_turn (F := fun _ => False) h.own (Turn.of_below k) (fun _ _ q => q), h.far⟩
end Go.Proofs.Ythjcndlapelnlaa
