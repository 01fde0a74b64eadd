/-
  cairnref08.SameMedia of nothing and nothing.
-/
import Derived.Test.YthjcndlapelnlaaSd
namespace Go.Proofs.Ythjcndlapelnlaa
open Go.RowKit

theorem built85_0 : Try.prog.built 85 [(0, nilS), (1, nilS)] = some #[nilS, nilS] := by kernel_rfl
set_option maxRecDepth 100000 in
set_option maxHeartbeats 1600000 in
theorem samemedia_none (w : World) :
    Calls Try.prog 20 #[.agg (mdc 0 0 nilS nilS 0 z32).toArray, .agg (mdc 0 0 nilS nilS 0 z32).toArray] w fun e w' => e = .returned (.bool true) ∧ Below w.heap.size w w' := by
  obtain ⟨L, hL⟩ : ∃ L, L = mdc 0 0 nilS nilS 0 z32 := ⟨_, rfl⟩
  obtain ⟨G, hG⟩ : ∃ G, G = rgc 0 z32 := ⟨_, rfl⟩
  have hLG : L = .int .i64 0 :: .int .i64 0 :: .slice none 0 0 :: .slice none 0 0 :: G := by rw [hL, hG]; rfl
  rw [← hL]
  have hr0 := rng_new w L 54
  have hr1 := rng_new (w.alloc (.cells L.toArray 54)) L 54
  have HB : Hid (Below w.heap.size w ((w.alloc (.cells L.toArray 54)).alloc (.cells L.toArray 54))) := ((Below.refl _ _).alloc (Nat.le_refl _) _).alloc (by simp) _
  have hr0' := rng_keep hr0 ((Below.refl _ _).alloc (Nat.le_refl _) (.cells L.toArray 54))
  rw [World.size_alloc] at hr1
  have fields : ∀ (u : World) (b : Nat), u.rangeAt b 0 L → u.cell? ⟨b, 0, none⟩ = some (.int .i64 0) ∧ u.cell? ⟨b, 1, none⟩ = some (.int .i64 0) ∧ u.cell? ⟨b, 2, none⟩ = some (.slice none 0 0) ∧ u.cell? ⟨b, 3, none⟩ = some (.slice none 0 0) ∧ u.rangeAt b 4 G := fun u b h => by
    rw [hLG] at h
    obtain ⟨h1, h⟩ := rng_head h
    obtain ⟨h2, h⟩ := rng_head h
    obtain ⟨h3, h⟩ := rng_head h
    obtain ⟨h4, h⟩ := rng_head h
    exact ⟨h1, h2, h3, h4, h⟩
  obtain ⟨a0, a1, a2, a3, a4⟩ := fields _ _ hr0'
  obtain ⟨b0, b1, b2, b3, b4⟩ := fields _ _ hr1
  have H4 : Hid (((w.alloc (.cells L.toArray 54)).alloc (.cells L.toArray 54)).rangeAt w.heap.size 4 G ∧ ((w.alloc (.cells L.toArray 54)).alloc (.cells L.toArray 54)).rangeAt (w.heap.size + 1) 4 G) := ⟨a4, b4⟩
  have HI : Hid ((Try.prog.info? 39).map (·.size) = some G.length) := by rw [hG, rgc_len z32_len]; exact i39
  have je : ∀ u, (binOp .eql 39 (.agg G.toArray) (.agg G.toArray)).run Try.prog u = .ok (.bool true) u := fun u => by
    rw [hG]
    exact eql39 isH_z32 isH_z32 u
  have bd := built85_0
  clear hr0 hr1 hr0' fields a4 b4 hLG hG hL
  go_enter Try.func20, Try.ntmps20
  go_wp2_with (first
    | refine wpList_load_mid_g (by kernel_rfl) 39 _ (by rfl) w.heap.size 4 (by rfl) G _ H4.out.1 Try.underlying39 rfl HI.out ?_
    | refine wpList_load_mid_g (by kernel_rfl) 39 _ (by rfl) (w.heap.size + 1) 4 (by rfl) G _ H4.out.2 Try.underlying39 rfl HI.out ?_
    | refine wpList_bdL (by kernel_rfl) _ _ (by rfl) _ bd ?_
    | (go_at_call 30; refine (same_none _).mono ?_; rintro e w' ⟨rfl, hb⟩; have HC : Hid (Below w.heap.size w w') := HB.out.trans (hb.mono (by simp; omega)); clear hb))
  go_ret
  exact ⟨rfl, HC.out⟩
end Go.Proofs.Ythjcndlapelnlaa
