/-
  media.Load and New of nothing: what is refused.
-/
import Derived.Test.YthjcndlapelnlaaRg
import Derived.Test.YthjcndlapelnlaaRm
import Derived.Test.YthjcndlapelnlaaCn
namespace Go.Proofs.Ythjcndlapelnlaa
open Go.RowKit

set_option maxRecDepth 100000 in
set_option maxHeartbeats 1600000 in
theorem load_limits (w : World) (sl rm : Int) (cv : Value) (h : limB sl rm = false) :
    Calls Try.prog 24 #[.agg (mdc sl rm nilS nilS 0 z32).toArray, cv] w fun e w' => e = .returned (.tuple #[.pointer none, .int .i64 80]) ∧ Below w.heap.size w w' := by
  have HR : Hid ((w.alloc (.cells (mdc sl rm nilS nilS 0 z32).toArray 54)).rangeAt w.heap.size 0 (mdc sl rm nilS nilS 0 z32)) := rng_new w _ _
  have HI : Hid ((Try.prog.info? 54).map (·.size) = some (mdc sl rm nilS nilS 0 z32).length) := i54' z32_len
  have HB : Hid (Below w.heap.size w (w.alloc (.cells (mdc sl rm nilS nilS 0 z32).toArray 54))) := (Below.refl _ _).alloc (Nat.le_refl _) _
  have HC : Hid (∀ u, Calls Try.prog 33 #[.agg (mdc sl rm nilS nilS 0 z32).toArray] u fun e w' => e = .returned (.bool false) ∧ Below u.heap.size u w') := fun u => by
    have := limits_any u sl rm nilS nilS 0 z32
    rw [h] at this
    exact this
  obtain ⟨L, hL⟩ : ∃ L, L = mdc sl rm nilS nilS 0 z32 := ⟨_, rfl⟩
  rw [← hL] at HR HI HB HC ⊢
  clear hL h
  go_enter Try.func24, Try.ntmps24
  go_wp2_with (first
    | refine wpList_load_mid_g (by kernel_rfl) 54 _ (by rfl) w.heap.size 0 (by rfl) L _ HR.out Try.underlying54 rfl HI.out ?_
    | (go_at_call 33; refine (HC.out _).mono ?_; rintro e w' ⟨rfl, hb⟩; have HD : Hid (Below w.heap.size w w') := HB.out.trans (hb.mono (by simp)); clear hb))
  go_ret2
  exact ⟨rfl, HD.out⟩
set_option maxRecDepth 100000 in
set_option maxHeartbeats 1600000 in
theorem load_choices {w : World} {sl rm : Int} {cv : Value} {C : List Cho} (h : limB sl rm = true) (hc : Chs w cv C) (hb : chsB C = false) :
    Calls Try.prog 24 #[.agg (mdc sl rm nilS nilS 0 z32).toArray, cv] w fun e w' => e = .returned (.tuple #[.pointer none, .int .i64 2]) ∧ Below w.heap.size w w' := by
  have hl : 1 ≤ sl ∧ sl ≤ 4096 ∧ 0 ≤ rm ∧ rm ≤ 1048576 := of_decide_eq_true h
  have HR : Hid ((w.alloc (.cells (mdc sl rm nilS nilS 0 z32).toArray 54)).rangeAt w.heap.size 0 (mdc sl rm nilS nilS 0 z32)) := rng_new w _ _
  have HI : Hid ((Try.prog.info? 54).map (·.size) = some (mdc sl rm nilS nilS 0 z32).length) := i54' z32_len
  have HI3 : Hid ((Try.prog.info? 39).map (·.size) = some (rgc 0 z32).length) := i39' z32_len
  have HB : Hid (Below w.heap.size w (w.alloc (.cells (mdc sl rm nilS nilS 0 z32).toArray 54))) := (Below.refl _ _).alloc (Nat.le_refl _) _
  have H1 : Hid (∀ u, Calls Try.prog 33 #[.agg (mdc sl rm nilS nilS 0 z32).toArray] u fun e w' => e = .returned (.bool true) ∧ Below u.heap.size u w') := fun u => by
    have := limits_any u sl rm nilS nilS 0 z32
    rw [h] at this
    exact this
  have H2 : Hid (∀ u, Calls Try.prog 34 #[.agg (mdc sl rm nilS nilS 0 z32).toArray] u fun e w' => e = .returned (.bool true) ∧ Below u.heap.size u w') := fun u => blobs_none u sl rm nilS 0 z32 hl.1
  have H3 : Hid (∀ u, Calls Try.prog 35 #[.agg (rgc 0 z32).toArray] u fun e w' => e = .returned (.bool true) ∧ Below u.heap.size u w') := fun u => by
    have := register_any u 0 z32 isH_z32
    have e : regB 0 z32 = true := by simp [regB]
    rw [e] at this
    exact this
  have H4 : Hid (∀ u, Below w.heap.size w u → Calls Try.prog 27 #[cv] u fun e w' => e = .returned (.bool false) ∧ Below u.heap.size u w') := fun u hu => by
    have := choices_any (hc.keep hu)
    rw [hb] at this
    exact this
  have HF : Hid (∀ u : World, u.rangeAt w.heap.size 0 (mdc sl rm nilS nilS 0 z32) → u.cell? ⟨w.heap.size, 1, none⟩ = some (.int .i64 rm) ∧ u.cell? ⟨w.heap.size, 3, none⟩ = some (.slice none 0 0) ∧ u.rangeAt w.heap.size 4 (rgc 0 z32)) := fun u q => by
    obtain ⟨_, q⟩ := rng_head q
    obtain ⟨q1, q⟩ := rng_head q
    obtain ⟨_, q⟩ := rng_head q
    obtain ⟨q3, q⟩ := rng_head q
    exact ⟨q1, q3, q⟩
  have hrm : ¬ rm < 0 := by omega
  have hrd : decide (rm < 0) = false := decide_eq_false hrm
  obtain ⟨L, hL⟩ : ∃ L, L = mdc sl rm nilS nilS 0 z32 := ⟨_, rfl⟩
  obtain ⟨G, hG⟩ : ∃ G, G = rgc 0 z32 := ⟨_, rfl⟩
  rw [← hL] at HR HI HB H1 H2 HF ⊢
  rw [← hG] at HI3 H3 HF
  obtain ⟨a, b, off, cc, e, _⟩ := hc
  subst e
  clear hL h hG hb hl
  go_enter Try.func24, Try.ntmps24
  go_wp2_with (first
    | refine wpList_load_mid_g (by kernel_rfl) 54 _ (by rfl) w.heap.size 0 (by rfl) L _ HR.out Try.underlying54 rfl HI.out ?_
    | (go_at_call 33; refine (H1.out _).mono ?_; rintro e w1 ⟨rfl, hb⟩; replace HR : Hid (w1.rangeAt w.heap.size 0 L) := rng_keep HR.out hb; replace HB : Hid (Below w.heap.size w w1) := HB.out.trans (hb.mono (by simp)); clear hb)
    | (go_at_call 34; refine (H2.out _).mono ?_; rintro e w2 ⟨rfl, hb⟩; replace HR : Hid (w2.rangeAt w.heap.size 0 L) := rng_keep HR.out hb; replace HB : Hid (Below w.heap.size w w2) := HB.out.trans (hb.mono HB.out.size); clear hb; obtain ⟨k1, k3, k4⟩ := HF.out _ HR.out; have HK4 : Hid (w2.rangeAt w.heap.size 4 G) := k4; clear k4)
    | refine wpList_load_mid_g (by kernel_rfl) 39 _ (by rfl) w.heap.size 4 (by rfl) G _ HK4.out Try.underlying39 rfl HI3.out ?_
    | (go_at_call 35; refine (H3.out _).mono ?_; rintro e w3 ⟨rfl, hb⟩; replace HB : Hid (Below w.heap.size w w3) := HB.out.trans (hb.mono HB.out.size); clear hb)
    | (go_at_call 27; refine (H4.out _ HB.out).mono ?_; rintro e w4 ⟨rfl, hb⟩; replace HB : Hid (Below w.heap.size w w4) := HB.out.trans (hb.mono HB.out.size); clear hb))
  go_ret2
  exact ⟨rfl, HB.out⟩
end Go.Proofs.Ythjcndlapelnlaa
