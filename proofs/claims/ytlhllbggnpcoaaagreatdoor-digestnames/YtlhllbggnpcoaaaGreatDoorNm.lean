import Derived.Test.YtlhllbggnpcoaaaGreatDoorFx
import Derived.Test.YtlhllbggnpcoaaaGreatDoorSl
/-
  DigestNames.
-/
namespace Go.Proofs.YtlhllbggnpcoaaaGreatDoor
open Go.RowKit Go.Sort Go.Maps

theorem nilTwins (w : World) : Calls Tryz.prog 13 #[.pointer none] w fun e w' => e = .returned (.slice none 0 0) ∧ w' = w := by
  go_enter_defers Tryz.func13, Tryz.ntmps13
  go_wp2
  exact ⟨_, results_tmp rfl _ _ _, rfl, rfl⟩

set_option maxRecDepth 100000 in
set_option maxHeartbeats 4000000 in
theorem names_any (w : World) (hG : Ground w) : Calls Tryz.prog 3 #[] w fun e w' => e = .returned (.bool true) ∧ Below w.heap.size w w' := by
  have HG : Hid (Ground w) := hG
  have eqz : ∀ w0 : World, (Op.equalIn 10000 31 (.agg Z32) (.agg #[.int .u8 0, .int .u8 0, .int .u8 0, .int .u8 0, .int .u8 0, .int .u8 0, .int .u8 0, .int .u8 0, .int .u8 0, .int .u8 0, .int .u8 0, .int .u8 0, .int .u8 0, .int .u8 0, .int .u8 0, .int .u8 0, .int .u8 0, .int .u8 0, .int .u8 0, .int .u8 0, .int .u8 0, .int .u8 0, .int .u8 0, .int .u8 0, .int .u8 0, .int .u8 0, .int .u8 0, .int .u8 0, .int .u8 0, .int .u8 0, .int .u8 0, .int .u8 0])).run Tryz.prog w0 = .ok true w0 := fun w0 => eq_Z32 w0
  clear hG
  go_enter Tryz.func3, Tryz.ntmps3
  go_wp2_with fail
  refine (new_bits1 w 7 257 _ (Or.inl (by decide))).mono ?_
  rintro _ w' ⟨rfl, hw'⟩
  have hw'' := hw'.symm
  subst hw''
  go_wp2_with fail
  refine (secret_any w none 0 0 0 0 (fun _ => 0) (view_nil w) (fun _ => by decide)).mono ?_
  rintro _ w1 ⟨a1, g1, c1, rfl, _, _, _, _, _, hb1⟩
  have H1 : Hid (Below w.heap.size w w1) := hb1
  clear hb1
  go_wp2_with fail
  refine (new_bits2 w1 256 257 _ (by decide) (by decide) (Or.inr (by decide))).mono ?_
  rintro _ w' ⟨rfl, hw'⟩
  have hw'' := hw'.symm
  subst hw''
  go_wp2_with fail
  refine (secret_any w1 none 0 0 0 0 (fun _ => 0) (view_nil w1) (fun _ => by decide)).mono ?_
  rintro _ w2 ⟨a2, g2, c2, rfl, hc2, _, _, _, _, hb2⟩
  have H2 : Hid (Below w.heap.size w w2) := ch H1.out hb2
  have s1 : ∀ w, (Instr.sliceAt 26 (.slice a2 32 c2) none (some (.int .i64 31)) none).run Tryz.prog w = .ok (.slice a2 31 c2) w := fun w => sliceAt_upto a2 32 c2 31 (by omega) w
  have s2 : ∀ w, (Instr.slice 26 (.slice a2 32 c2) none (some (.int .i64 31)) none).run Tryz.prog w = .ok (.slice a2 31 c2) w := fun w => slice_upto a2 32 c2 31 (by omega) w
  clear hb2 H1
  go_wp2_with fail
  refine (new_key w2 8 8 a2 31 c2 (by decide) (by decide) (by decide)).mono ?_
  rintro _ w3 ⟨rfl, hb3⟩
  have H3 : Hid (Below w.heap.size w w3) := ch H2.out hb3
  clear hb3 H2 s1 s2
  go_wp2_with fail
  refine (secret_any w3 none 0 0 0 0 (fun _ => 0) (view_nil w3) (fun _ => by decide)).mono ?_
  rintro _ w4 ⟨a4, g4, c4, rfl, _, _, _, _, ho4, hb4⟩
  have H4 : Hid (Below w.heap.size w w4 ∧ w4.ownsRow w3.heap.size 5 1 (.slice a4 32 c4) 32 (vals (fun i => ((secf 0 (fun _ => 0) i : Nat) : Int)) 32) ∧ Below w3.heap.size w3 w4) := ⟨ch H3.out hb4, ho4, hb4⟩
  clear hb4 ho4
  go_wp2_with (refine wpList_append_bytes (by rfl) (.tmp 29) (.tmp 30) (by rfl) w3.heap.size _ 32 _ (by rfl) (H4.out.2.1.alloc _) (some ⟨w4.heap.size, 0, none⟩) w4.heap.size 0 1 1 _ (by rfl) (view_new1 w4 0 (by decide) (by decide)) (fun h => by cases h) (by decide) (by have := H4.out.2.2.size; simp; omega) ?_)
  intro v5 w5 ho5 gr5 nn5
  obtain ⟨a5, c5, rfl⟩ := own_slice ho5
  have H5 : Hid (Below w.heap.size w w5) := H3.out.trans ((Below.trans (H4.out.2.2.alloc H4.out.2.2.size _) (grown_below gr5 (H4.out.2.1.alloc _) (Nat.le_refl _) (by have := H4.out.2.2.size; simp; omega))).mono H3.out.size)
  clear ho5 gr5 nn5 H4 H3
  go_wp2_with fail
  refine (new_key w5 8 8 a5 33 c5 (by decide) (by decide) (by decide)).mono ?_
  rintro _ w6 ⟨rfl, hb6⟩
  have H6 : Hid (Below w.heap.size w w6) := ch H5.out hb6
  clear hb6 H5
  go_wp2_with fail
  refine (nilLen w6).mono ?_
  rintro _ w' ⟨rfl, hw'⟩
  have hw'' := hw'.symm
  subst hw''
  go_wp2_with fail
  refine (nilHash w6 _).mono ?_
  rintro _ w7 ⟨rfl, hb7⟩
  have H7 : Hid (Below w.heap.size w w7) := ch H6.out hb7
  clear hb7 H6
  go_wp2_with fail
  refine (nilCode w7 _).mono ?_
  rintro _ w8 ⟨rfl, hb8⟩
  have H8 : Hid (Below w.heap.size w w8) := ch H7.out hb8
  clear hb8 H7
  go_wp2_with fail
  refine (nilAccept w8 _).mono ?_
  rintro _ w9 ⟨rfl, hb9⟩
  have H9 : Hid (Below w.heap.size w w9) := ch H8.out hb9
  clear hb9 H8
  go_wp2_with fail
  refine (nilSound w9).mono ?_
  rintro _ w' ⟨rfl, hw'⟩
  have hw'' := hw'.symm
  subst hw''
  go_wp2_with fail
  refine (nilClashes w9).mono ?_
  rintro _ w' ⟨rfl, hw'⟩
  have hw'' := hw'.symm
  subst hw''
  go_wp2_with fail
  refine (nilTwins w9).mono ?_
  rintro _ w' ⟨rfl, hw'⟩
  have hw'' := hw'.symm
  subst hw''
  go_wp2_with fail
  refine (nilForgeries w9).mono ?_
  rintro _ w' ⟨rfl, hw'⟩
  have hw'' := hw'.symm
  subst hw''
  go_wp2_with fail
  refine (fixed_any w9 (HG.out.below H9.out)).mono ?_
  rintro _ w10 ⟨rfl, hb10⟩
  have H10 : Hid (Below w.heap.size w w10) := ch H9.out hb10
  clear hb10 H9 eqz
  go_wp2_with fail
  go_ret
  exact ⟨rfl, H10.out⟩
end Go.Proofs.YtlhllbggnpcoaaaGreatDoor
