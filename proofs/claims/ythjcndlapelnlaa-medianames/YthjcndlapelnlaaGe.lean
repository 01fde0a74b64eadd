/-
  Get, List, Read, Reg, whatever access does.
-/
import Derived.Test.YthjcndlapelnlaaAn
namespace Go.Proofs.Ythjcndlapelnlaa
open Go.RowKit

set_option maxRecDepth 100000 in
set_option maxHeartbeats 1600000 in
theorem get_of {p : Value} {w : World} {key : List Nat} (hkey : key.length = 32) {R : World → World → Value → Value → Int → List Nat → Int → Prop} (K : ∀ w1, Below w.heap.size w w1 → Acc p w1 (rqc 1 key nilS 0 0 z32) (R w1)) :
    Calls Try.prog 7 #[p, .agg (bv key).toArray] w fun e w' => ∃ w1 w2 b ks c tag er, e = .returned (.tuple #[b, .int .i64 er]) ∧ Below w.heap.size w w1 ∧ R w1 w2 b ks c tag er ∧ Below w2.heap.size w2 w' := by
  have bd := built77_key 1 hkey
  have hz := zv74
  have HB : Hid (Below w.heap.size w (w.alloc (.cells (bv key).toArray 33))) := (Below.refl _ _).alloc (Nat.le_refl _) _
  have HK : Hid (Acc p (w.alloc (.cells (bv key).toArray 33)) (rqc 1 key nilS 0 0 z32) (R (w.alloc (.cells (bv key).toArray 33)))) := K _ HB.out
  have HR0 : Hid ((w.alloc (.cells (bv key).toArray 33)).rangeAt w.heap.size 0 (bv key)) := rng_new w _ _
  have HI : Hid ((Try.prog.info? 33).map (·.size) = some (bv key).length) := by rw [bv_len, hkey]; exact i33
  clear K
  go_enter Try.func7, Try.ntmps7
  go_wp2_with (first
    | refine wpList_load_mid_g (by kernel_rfl) 33 _ (by rfl) w.heap.size 0 (by rfl) (bv key) _ HR0.out Try.underlying33 rfl HI.out ?_
    | refine wpList_bdL (by kernel_rfl) _ _ (by rfl) _ bd ?_
    | (go_at_call 26; refine HK.out.mono ?_; rintro e w' ⟨b, ks, c, tag, er, rfl, ht, hb, hk, hR⟩; have ho := anc_one (c := c) (tag := tag) (e := er) hb hk; have HL : Hid ((Try.prog.info? 74).map (·.size) = some (anc b ks c tag er).length ∧ (anc b ks c tag er).length = (anc nilS nilS 0 z32 0).length) := ⟨i74' ht, by rw [anc_len ht, anc_len z32_len]⟩; have HA : Hid ((w'.alloc (.cells (anc b ks c tag er).toArray 74)).rangeAt w'.heap.size 0 (anc b ks c tag er)) := rng_new w' _ _; have HR : Hid (R _ w' b ks c tag er) := hR; clear hR HK)
    | refine wpList_stN (by kernel_rfl) 74 _ _ (by rfl) (anc b ks c tag er) (anc nilS nilS 0 z32 0) HL.out.1 HL.out.2 ho (by rfl) (by rfl) ?_)
  obtain ⟨a0, a1, a2, a3⟩ := an_at ht HA.out
  go_quiet (fail)
  go_wp2_with fail
  go_ret2
  exact ⟨_, w', b, ks, c, tag, er, rfl, HB.out, HR.out, below_drewN ((Below.refl _ _).alloc (Nat.le_refl _) _) _⟩
set_option maxRecDepth 100000 in
set_option maxHeartbeats 1600000 in
theorem list_of {p : Value} {w : World} {R : World → World → Value → Value → Int → List Nat → Int → Prop} (K : ∀ w1, Below w.heap.size w w1 → Acc p w1 (rqc 4 z32 nilS 0 0 z32) (R w1)) :
    Calls Try.prog 8 #[p] w fun e w' => ∃ w1 w2 b ks c tag er, e = .returned (.tuple #[ks, .int .i64 er]) ∧ Below w.heap.size w w1 ∧ R w1 w2 b ks c tag er ∧ Below w2.heap.size w2 w' := by
  have bd := built77_k 4
  have hz := zv74
  have HB : Hid (Below w.heap.size w w) := Below.refl _ _
  have HK : Hid (Acc p w (rqc 4 z32 nilS 0 0 z32) (R w)) := K _ HB.out
  clear K
  go_enter Try.func8, Try.ntmps8
  go_wp2_with (first
    | refine wpList_bdL (by kernel_rfl) _ _ (by rfl) _ bd ?_
    | (go_at_call 26; refine HK.out.mono ?_; rintro e w' ⟨b, ks, c, tag, er, rfl, ht, hb, hk, hR⟩; have ho := anc_one (c := c) (tag := tag) (e := er) hb hk; have HL : Hid ((Try.prog.info? 74).map (·.size) = some (anc b ks c tag er).length ∧ (anc b ks c tag er).length = (anc nilS nilS 0 z32 0).length) := ⟨i74' ht, by rw [anc_len ht, anc_len z32_len]⟩; have HA : Hid ((w'.alloc (.cells (anc b ks c tag er).toArray 74)).rangeAt w'.heap.size 0 (anc b ks c tag er)) := rng_new w' _ _; have HR : Hid (R _ w' b ks c tag er) := hR; clear hR HK)
    | refine wpList_stN (by kernel_rfl) 74 _ _ (by rfl) (anc b ks c tag er) (anc nilS nilS 0 z32 0) HL.out.1 HL.out.2 ho (by rfl) (by rfl) ?_)
  obtain ⟨a0, a1, a2, a3⟩ := an_at ht HA.out
  go_quiet (fail)
  go_wp2_with fail
  go_ret2
  exact ⟨_, w', b, ks, c, tag, er, rfl, HB.out, HR.out, below_drewN ((Below.refl _ _).alloc (Nat.le_refl _) _) _⟩
set_option maxRecDepth 100000 in
set_option maxHeartbeats 1600000 in
theorem read_of {p : Value} {w : World} {R : World → World → Value → Value → Int → List Nat → Int → Prop} (K : ∀ w1, Below w.heap.size w w1 → Acc p w1 (rqc 5 z32 nilS 0 0 z32) (R w1)) :
    Calls Try.prog 9 #[p] w fun e w' => ∃ w1 w2 b ks c tag er, e = .returned (.tuple #[b, .int .i64 er]) ∧ Below w.heap.size w w1 ∧ R w1 w2 b ks c tag er ∧ Below w2.heap.size w2 w' := by
  have bd := built77_k 5
  have hz := zv74
  have HB : Hid (Below w.heap.size w w) := Below.refl _ _
  have HK : Hid (Acc p w (rqc 5 z32 nilS 0 0 z32) (R w)) := K _ HB.out
  clear K
  go_enter Try.func9, Try.ntmps9
  go_wp2_with (first
    | refine wpList_bdL (by kernel_rfl) _ _ (by rfl) _ bd ?_
    | (go_at_call 26; refine HK.out.mono ?_; rintro e w' ⟨b, ks, c, tag, er, rfl, ht, hb, hk, hR⟩; have ho := anc_one (c := c) (tag := tag) (e := er) hb hk; have HL : Hid ((Try.prog.info? 74).map (·.size) = some (anc b ks c tag er).length ∧ (anc b ks c tag er).length = (anc nilS nilS 0 z32 0).length) := ⟨i74' ht, by rw [anc_len ht, anc_len z32_len]⟩; have HA : Hid ((w'.alloc (.cells (anc b ks c tag er).toArray 74)).rangeAt w'.heap.size 0 (anc b ks c tag er)) := rng_new w' _ _; have HR : Hid (R _ w' b ks c tag er) := hR; clear hR HK)
    | refine wpList_stN (by kernel_rfl) 74 _ _ (by rfl) (anc b ks c tag er) (anc nilS nilS 0 z32 0) HL.out.1 HL.out.2 ho (by rfl) (by rfl) ?_)
  obtain ⟨a0, a1, a2, a3⟩ := an_at ht HA.out
  go_quiet (fail)
  go_wp2_with fail
  go_ret2
  exact ⟨_, w', b, ks, c, tag, er, rfl, HB.out, HR.out, below_drewN ((Below.refl _ _).alloc (Nat.le_refl _) _) _⟩
end Go.Proofs.Ythjcndlapelnlaa
