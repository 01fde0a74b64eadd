/-
  MacKnown.
-/
import Derived.Test.YtleabfmlokjllaaDoorKnB
import Derived.Test.YtleabfmlokjllaaDoorSl
import Derived.Lib.SlBytesConst
namespace Go.Proofs.YtleabfmlokjllaaDoor
open Go.RowKit

theorem str11 : str 20 (fun _ => 11) = kS1 := by kernel_rfl
theorem str170 : str 131 (fun _ => 170) = kS4 := by kernel_rfl

/-- a list of like bytes, on its way -/
structure Lk (w wr : World) (x k : Nat) (v : Value) : Prop where
  below : Below w.heap.size w wr
  own : wr.ownsRow w.heap.size 5 1 v k (vals (fun _ => (x : Int)) k)
theorem Lk.view {w wr : World} {x k : Nat} {v : Value} (h : Lk w wr x k v) (hx : x < 256) (hk : k ≤ 281474976710656) : ∃ a g c, v = .slice a k c ∧ View wr a g 0 k (fun _ => (x : Int)) := by
  obtain ⟨a, g, c, e, hv, _⟩ := view_own h.own (fun i _ => by omega) hk
  exact ⟨a, g, c, e, hv⟩

set_option maxRecDepth 100000 in
set_option maxHeartbeats 1600000 in
theorem macKnown_any (w : World) (hG : Ground w) :
    Calls Tryd.prog 5 #[] w fun e w' => e = .returned (.bool true) ∧ Below w.heap.size w w' := by
  have HG : Hid (Ground w) := hG
  have cv := Lib.run_convert_bytes_const (P := Tryd.prog) w 22 5 #[.int .u8 120] 1 1 Tryd.underlying22 Tryd.underlying5
  clear hG
  go_enter Tryd.func5, Tryd.ntmps5
  go_wp2_with fail
  refine (mwrite_nil _ _).mono ?_
  rintro _ w1 ⟨rfl, hw1⟩
  have B2 : Hid (Below w.heap.size w w1) := by rw [hw1]; exact (Below.refl _ _).alloc (Nat.le_refl _) _
  clear hw1 cv
  go_wp2_with fail
  refine (mcode_nil _).mono ?_
  rintro _ w2 ⟨rfl, hb2⟩
  have B3 : Hid (Below w.heap.size w w2) := ch B2.out hb2
  clear hb2 B2
  have eqz : (Op.equalIn 10000 24 (.agg Z32) (.agg #[.int .u8 0, .int .u8 0, .int .u8 0, .int .u8 0, .int .u8 0, .int .u8 0, .int .u8 0, .int .u8 0, .int .u8 0, .int .u8 0, .int .u8 0, .int .u8 0, .int .u8 0, .int .u8 0, .int .u8 0, .int .u8 0, .int .u8 0, .int .u8 0, .int .u8 0, .int .u8 0, .int .u8 0, .int .u8 0, .int .u8 0, .int .u8 0, .int .u8 0, .int .u8 0, .int .u8 0, .int .u8 0, .int .u8 0, .int .u8 0, .int .u8 0, .int .u8 0])).run Tryd.prog w2 = .ok true w2 := eq_Z32 w2
  go_wp2_with fail
  refine (mcopy_nil _).mono ?_
  rintro _ w3 ⟨rfl, hw3⟩
  have B4 : Hid (Lk w w3 170 0 (.slice none 0 0)) := ⟨by rw [hw3]; exact B3.out, World.ownsRow_nil _ _ _ _⟩
  clear hw3 eqz B3
  go_wp2_with fail
  go_loopg [2, 3] 131 (fun g v i wr => ∃ k : Nat, k ≤ 131 ∧ g = 131 - k ∧ i = .int .i64 k ∧ Lk w wr 170 k v)
  case atStart => exact ⟨0, by omega, rfl, rfl, B4.out⟩
  case round =>
    obtain ⟨k, hk, rfl, rfl, hR⟩ := hrel
    clear B4
    have own1 := hR.own
    have b1 := hR.below
    have s1 := b1.size
    by_cases hkn : k < 131
    · clear hR
      go_wp2_with (refine wpList_append_bytes (by rfl) (.tmp 23) (.tmp 24) (by rfl) w.heap.size _ k _ (by rfl) (own1.alloc _) (some ⟨wr.heap.size, 0, none⟩) wr.heap.size 0 1 1 _ (by rfl) (view_new1 wr 170 (by decide) (by decide)) (fun h => by cases h) (by omega) (by simp; omega) ?_)
      intro v2 w2 own2 gr2 nn2
      have HN : Hid (Lk w w2 170 (k + 1) v2) := ⟨(b1.alloc s1 _).trans (grown_below gr2 (own1.alloc _) (Nat.le_refl _) (by simp; omega)), by rw [← vals_succ]; exact own2⟩
      clear own1 own2 gr2 nn2 b1 s1
      go_wp2_with fail
      go_roundg (131 - (k + 1))
      case measure => omega
      case rel => exact ⟨k + 1, by omega, rfl, by go_num, HN.out⟩
    · have : k = 131 := by omega
      subst this
      obtain ⟨a2, g2, c2, rfl, v2⟩ := hR.view (by decide) (by decide)
      have HL : Hid (View wr a2 g2 0 131 (fun _ => ((170 : Nat) : Int)) ∧ Below w.heap.size w wr) := ⟨v2, b1⟩
      have B5 : Hid (Lk wr wr 11 0 (.slice none 0 0)) := ⟨Below.refl _ _, World.ownsRow_nil _ _ _ _⟩
      obtain ⟨w4, hw4⟩ : ∃ x, x = wr := ⟨_, rfl⟩
      rw [← hw4] at HL B5
      rw [← hw4]
      clear own1 b1 s1 hR v2 hw4 wr
      go_wp2_with fail
      go_loopg [4, 5] 20 (fun g v i wr => ∃ k : Nat, k ≤ 20 ∧ g = 20 - k ∧ i = .int .i64 k ∧ Lk w4 wr 11 k v)
      case atStart => exact ⟨0, by omega, rfl, rfl, B5.out⟩
      case round =>
        obtain ⟨k, hk, rfl, rfl, hR⟩ := hrel
        clear B5
        have own1 := hR.own
        have b1 := hR.below
        have s1 := b1.size
        by_cases hkn : k < 20
        · clear hR
          go_wp2_with (refine wpList_append_bytes (by rfl) (.tmp 30) (.tmp 31) (by rfl) w4.heap.size _ k _ (by rfl) (own1.alloc _) (some ⟨wr.heap.size, 0, none⟩) wr.heap.size 0 1 1 _ (by rfl) (view_new1 wr 11 (by decide) (by decide)) (fun h => by cases h) (by omega) (by simp; omega) ?_)
          intro v2 w2 own2 gr2 nn2
          have HN : Hid (Lk w4 w2 11 (k + 1) v2) := ⟨(b1.alloc s1 _).trans (grown_below gr2 (own1.alloc _) (Nat.le_refl _) (by simp; omega)), by rw [← vals_succ]; exact own2⟩
          clear own1 own2 gr2 nn2 b1 s1
          go_wp2_with fail
          go_roundg (20 - (k + 1))
          case measure => omega
          case rel => exact ⟨k + 1, by omega, rfl, by go_num, HN.out⟩
        · have : k = 20 := by omega
          subst this
          obtain ⟨a3, g3, c3, rfl, v3⟩ := hR.view (by decide) (by decide)
          have cv := convert_view v3 c3
          have e11 : str 20 (fun _ => ((11 : Nat) : Int)) = kS1 := str11
          rw [e11] at cv
          have HW : Hid (Below w.heap.size w wr) := ch HL.out.2 b1
          have HV : Hid (View wr a2 g2 0 131 (fun _ => ((170 : Nat) : Int))) := HL.out.1.below b1
          clear own1 b1 s1 hR v3 e11 HL
          go_wp2_with fail
          refine (known_any wr kS1 kT1 2956217441 247 (by decide) (by decide) (HG.out.below HW.out) kD1 kcode1 kfirst1 klast1).mono ?_
          rintro _ w5 ⟨rfl, hb5⟩
          have HW2 : Hid (Below w.heap.size w w5 ∧ View w5 a2 g2 0 131 (fun _ => ((170 : Nat) : Int))) := ⟨ch HW.out hb5, HV.out.below hb5⟩
          clear hb5 HW HV cv
          go_wp2_with fail
          refine (known_any w5 kS2 kT2 1541194054 67 (by decide) (by decide) (HG.out.below HW2.out.1) kD2 kcode2 kfirst2 klast2).mono ?_
          rintro _ w6 ⟨rfl, hb6⟩
          have HW3 : Hid (Below w.heap.size w w6 ∧ View w6 a2 g2 0 131 (fun _ => ((170 : Nat) : Int))) := ⟨ch HW2.out.1 hb6, HW2.out.2.below hb6⟩
          clear hb6 HW2
          go_wp2_with fail
          refine (known_any w6 kS3 kT3 3054725018 173 (by decide) (by decide) (HG.out.below HW3.out.1) kD3 kcode3 kfirst3 klast3).mono ?_
          rintro _ w7 ⟨rfl, hb7⟩
          have HW4 : Hid (Below w.heap.size w w7) := ch HW3.out.1 hb7
          have cv := convert_view (HW3.out.2.below hb7) c2
          have e170 : str 131 (fun _ => ((170 : Nat) : Int)) = kS4 := str170
          rw [e170] at cv
          clear hb7 HW3 e170
          go_wp2_with fail
          refine (known_any w7 kS4 kT4 1625567577 84 (by decide) (by decide) (HG.out.below HW4.out) kD4 kcode4 kfirst4 klast4).mono ?_
          rintro _ w8 ⟨rfl, hb8⟩
          have HW5 : Hid (Below w.heap.size w w8) := ch HW4.out hb8
          clear hb8 cv
          go_wp2_with fail
          go_ret
          exact ⟨rfl, HW5.out⟩
end Go.Proofs.YtleabfmlokjllaaDoor
