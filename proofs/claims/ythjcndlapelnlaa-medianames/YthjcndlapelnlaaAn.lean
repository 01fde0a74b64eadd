/-
  A nil device: access, and the ten calls.
-/
import Derived.Test.YthjcndlapelnlaaBu
namespace Go.Proofs.Ythjcndlapelnlaa
open Go.RowKit

theorem res1 {fn : Func} {p : Tmp} {ty : TypeId} (h : fn.results = #[.cell p ty]) (tmps : Array Value) (w : World) (g : Nat) (v : Value)
    (hp : tmps.getD p undef = .pointer (some ⟨g, 0, none⟩)) (hl : (loadVar ty ⟨g, 0, none⟩).run Try.prog w = .ok v w) :
    (results fn tmps).run Try.prog w = .ok v w := by
  have hp' : tmps[p]?.getD undef = .pointer (some ⟨g, 0, none⟩) := by simpa using hp
  simp [results, h, hp', asAddr, hl]
theorem zero_of_info {t : TypeId} {z : Value} {n : Nat} (h : (Try.prog.info? t).map (fun i => (i.zero, i.size)) = some (some z, n)) : ∀ w, (zeroValue t).run Try.prog w = .ok z w := fun w => by
  cases hq : Try.prog.info? t with
  | none => simp [hq] at h
  | some i =>
    simp [hq] at h
    simp [zeroValue, typeInfo, hq, h.1]
theorem zero74 : (Try.prog.info? 74).map (fun i => (i.zero, i.size)) = some (some (.agg (anc nilS nilS 0 z32 0).toArray), 36) := by kernel_rfl
theorem zv74 (w : World) : (zeroValue 74).run Try.prog w = .ok (.agg (anc nilS nilS 0 z32 0).toArray) w := zero_of_info zero74 w
theorem anc_one {b ks : Value} {c : Int} {tag : List Nat} {e : Int} (hb : b.oneCell' = true) (hk : ks.oneCell' = true) : (anc b ks c tag e).toArray.all (·.oneCell') = true := by
  refine all_oneCell_toArray (fun x hx => ?_)
  unfold anc rgc bv at hx
  simp only [List.mem_cons, List.mem_append, List.mem_map, List.not_mem_nil, or_false] at hx
  rcases hx with rfl | rfl | ((rfl | ⟨y, _, rfl⟩) | rfl)
  · exact hb
  · exact hk
  · rfl
  · rfl
  · rfl
theorem i74' {b ks : Value} {c : Int} {tag : List Nat} {e : Int} (h : tag.length = 32) : (Try.prog.info? 74).map (·.size) = some (anc b ks c tag e).length := by rw [anc_len h]; exact i74
theorem res74 {fn : Func} {p : Tmp} (h : fn.results = #[.cell p 74]) (tmps : Array Value) (w : World) (g : Nat) {b ks : Value} {c : Int} {tag : List Nat} {e : Int} (ht : tag.length = 32) (hg : w.rangeAt g 0 (anc b ks c tag e)) (hp : tmps.getD p undef = .pointer (some ⟨g, 0, none⟩)) :
    (results fn tmps).run Try.prog w = .ok (.agg (anc b ks c tag e).toArray) w :=
  res1 h tmps w g _ hp (run_loadVar_mid w g 0 74 _ _ hg Try.underlying74 rfl (i74' ht))
theorem built74e (e : Int) : Try.prog.built 74 [(3, .int .i64 e)] = some (anc nilS nilS 0 z32 e).toArray := by kernel_rfl

set_option maxRecDepth 100000 in
set_option maxHeartbeats 1600000 in
theorem access_nil (w : World) (L : Array Value) :
    Calls Try.prog 26 #[.pointer none, .agg L] w fun e w' => e = .returned (.agg (anc nilS nilS 0 z32 1).toArray) ∧ Below w.heap.size w w' := by
  have hz := zv74
  have g0 : ((w.alloc (.cells L 77)).alloc (.cells (anc nilS nilS 0 z32 0).toArray 74)).heap[w.heap.size + 1]? = some (.cells (anc nilS nilS 0 z32 0).toArray 74 (0, 0)) := by
    have := heap_alloc_new (w.alloc (.cells L 77)) (.cells (anc nilS nilS 0 z32 0).toArray 74)
    simpa using this
  have bd := built74e 1
  have o1 : (anc nilS nilS 0 z32 1).toArray.all (·.oneCell') = true := anc_one rfl rfl
  have HB : Hid (Below w.heap.size w ((w.alloc (.cells L 77)).alloc (.cells (anc nilS nilS 0 z32 0).toArray 74))) := ((Below.refl w.heap.size w).alloc (Nat.le_refl _) _).alloc (by simp) _
  have HI : Hid ((Try.prog.info? 74).map (·.size) = some (anc nilS nilS 0 z32 1).length ∧ (anc nilS nilS 0 z32 1).length = (anc nilS nilS 0 z32 0).length) := ⟨i74' z32_len, by rw [anc_len z32_len, anc_len z32_len]⟩
  go_enter Try.func26, Try.ntmps26
  go_wp2_with (first
    | refine wpList_bdL (by kernel_rfl) _ _ (by rfl) _ bd ?_
    | refine wpList_stB (by kernel_rfl) _ _ _ (by rfl) _ (anc nilS nilS 0 z32 1) (anc nilS nilS 0 z32 0) HI.out.1 HI.out.2 o1 g0 (by rfl) (by rfl) ?_)
  have hr := setRow_heap' (cs' := (anc nilS nilS 0 z32 1).toArray) g0
  exact bodyPost_ret (res74 rfl _ _ (w.heap.size + 1) z32_len (rng_row hr) rfl) rfl ⟨rfl, below_setRow HB.out (by omega) _⟩

/-! ### the ten calls, whatever access does -/
/-- what an access is told to come to -/
def Acc (p : Value) (w : World) (L : List Value) (R : World → Value → Value → Int → List Nat → Int → Prop) : Prop :=
  Calls Try.prog 26 #[p, .agg L.toArray] w fun e w' => ∃ b ks c tag er, e = .returned (.agg (anc b ks c tag er).toArray) ∧ (tag.length = 32 ∧ b.oneCell' = true ∧ ks.oneCell' = true ∧ R w' b ks c tag er)
theorem acc_nil (w : World) (L : List Value) : Acc (.pointer none) w L (fun w' b ks c tag er => b = nilS ∧ ks = nilS ∧ c = 0 ∧ tag = z32 ∧ er = 1 ∧ Below w.heap.size w w') :=
  (access_nil w L.toArray).mono (by
    rintro e w' ⟨rfl, hb⟩
    exact ⟨nilS, nilS, 0, z32, 1, rfl, z32_len, rfl, rfl, rfl, rfl, rfl, rfl, rfl, hb⟩)
theorem an_at {w : World} {g : Nat} {b ks : Value} {c : Int} {tag : List Nat} {er : Int} (ht : tag.length = 32) (h : w.rangeAt g 0 (anc b ks c tag er)) :
    w.cell? ⟨g, 0, none⟩ = some b ∧ w.cell? ⟨g, 1, none⟩ = some ks ∧ w.rangeAt g 2 (rgc c tag) ∧ w.cell? ⟨g, 35, none⟩ = some (.int .i64 er) := by
  obtain ⟨h1, h2⟩ := rng_head h
  obtain ⟨h3, h4⟩ := rng_head h2
  have h5 := rng_left h4
  have h6 := rng_right h4
  rw [rgc_len ht] at h6
  exact ⟨h1, h3, h5, (rng_head h6).1⟩
theorem an_field {b ks : Value} {c : Int} {tag : List Nat} {er : Int} (ht : tag.length = 32) (w : World) : (Instr.field 74 (.agg (anc b ks c tag er).toArray) 3).run Try.prog w = .ok (.int .i64 er) w := by
  have e : (anc b ks c tag er)[35]? = some (.int .i64 er) := by
    have h : anc b ks c tag er = (b :: ks :: rgc c tag) ++ [.int .i64 er] := by simp [anc]
    rw [h, List.getElem?_append_right (by simp [rgc_len ht])]
    simp [rgc_len ht]
  simp [Instr.field, run_underlying Try.underlying74, asAgg, part, go_sem]
  rw [e]
  rfl
set_option maxRecDepth 100000 in
set_option maxHeartbeats 1600000 in
theorem append_of {p : Value} {w : World} {a : Option Addr} {m cp : Nat} {R : World → World → Value → Value → Int → List Nat → Int → Prop} (K : ∀ w1, Below w.heap.size w w1 → Acc p w1 (rqc 6 z32 (.slice a m cp) 0 0 z32) (R w1)) :
    Calls Try.prog 13 #[p, .slice a m cp] w fun e w' => ∃ w1 w2 b ks c tag er, e = .returned (.int .i64 er) ∧ Below w.heap.size w w1 ∧ R w1 w2 b ks c tag er ∧ Below w2.heap.size w2 w' := by
  have bd := built77_b 6 a m cp
  have HK : Hid (Acc p w (rqc 6 z32 (.slice a m cp) 0 0 z32) (R w)) := K w (Below.refl _ _)
  clear K
  go_enter Try.func13, Try.ntmps13
  go_wp2_with (first
    | refine wpList_bdL (by kernel_rfl) _ _ (by rfl) _ bd ?_
    | (go_at_call 26; refine HK.out.mono ?_; rintro e w' ⟨b, ks, c, tag, er, rfl, ht, hb, hk, hR⟩; have hf := an_field (b := b) (ks := ks) (c := c) (er := er) ht; have HR : Hid (R w w' b ks c tag er) := hR; clear hR HK))
  go_ret
  exact ⟨w, w', b, ks, c, tag, er, rfl, Below.refl _ _, HR.out, Below.refl _ _⟩
set_option maxRecDepth 100000 in
set_option maxHeartbeats 1600000 in
theorem trim_of {p : Value} {w : World} {n : Int} {R : World → World → Value → Value → Int → List Nat → Int → Prop} (K : ∀ w1, Below w.heap.size w w1 → Acc p w1 (rqc 7 z32 nilS n 0 z32) (R w1)) :
    Calls Try.prog 14 #[p, .int .i64 n] w fun e w' => ∃ w1 w2 b ks c tag er, e = .returned (.int .i64 er) ∧ Below w.heap.size w w1 ∧ R w1 w2 b ks c tag er ∧ Below w2.heap.size w2 w' := by
  have bd := built77_n 7 n
  have HK : Hid (Acc p w (rqc 7 z32 nilS n 0 z32) (R w)) := K w (Below.refl _ _)
  clear K
  go_enter Try.func14, Try.ntmps14
  go_wp2_with (first
    | refine wpList_bdL (by kernel_rfl) _ _ (by rfl) _ bd ?_
    | (go_at_call 26; refine HK.out.mono ?_; rintro e w' ⟨b, ks, c, tag, er, rfl, ht, hb, hk, hR⟩; have hf := an_field (b := b) (ks := ks) (c := c) (er := er) ht; have HR : Hid (R w w' b ks c tag er) := hR; clear hR HK))
  go_ret
  exact ⟨w, w', b, ks, c, tag, er, rfl, Below.refl _ _, HR.out, Below.refl _ _⟩
set_option maxRecDepth 100000 in
set_option maxHeartbeats 1600000 in
theorem cut_of {p : Value} {w : World} {n : Int} {R : World → World → Value → Value → Int → List Nat → Int → Prop} (K : ∀ w1, Below w.heap.size w w1 → Acc p w1 (rqc 8 z32 nilS n 0 z32) (R w1)) :
    Calls Try.prog 15 #[p, .int .i64 n] w fun e w' => ∃ w1 w2 b ks c tag er, e = .returned (.int .i64 er) ∧ Below w.heap.size w w1 ∧ R w1 w2 b ks c tag er ∧ Below w2.heap.size w2 w' := by
  have bd := built77_n 8 n
  have HK : Hid (Acc p w (rqc 8 z32 nilS n 0 z32) (R w)) := K w (Below.refl _ _)
  clear K
  go_enter Try.func15, Try.ntmps15
  go_wp2_with (first
    | refine wpList_bdL (by kernel_rfl) _ _ (by rfl) _ bd ?_
    | (go_at_call 26; refine HK.out.mono ?_; rintro e w' ⟨b, ks, c, tag, er, rfl, ht, hb, hk, hR⟩; have hf := an_field (b := b) (ks := ks) (c := c) (er := er) ht; have HR : Hid (R w w' b ks c tag er) := hR; clear hR HK))
  go_ret
  exact ⟨w, w', b, ks, c, tag, er, rfl, Below.refl _ _, HR.out, Below.refl _ _⟩
set_option maxRecDepth 100000 in
set_option maxHeartbeats 1600000 in
theorem delete_of {p : Value} {w : World} {key : List Nat} (hkey : key.length = 32) {R : World → World → Value → Value → Int → List Nat → Int → Prop} (K : ∀ w1, Below w.heap.size w w1 → Acc p w1 (rqc 3 key nilS 0 0 z32) (R w1)) :
    Calls Try.prog 12 #[p, .agg (bv key).toArray] w fun e w' => ∃ w1 w2 b ks c tag er, e = .returned (.int .i64 er) ∧ Below w.heap.size w w1 ∧ R w1 w2 b ks c tag er ∧ Below w2.heap.size w2 w' := by
  have bd := built77_key 3 hkey
  have HB : Hid (Below w.heap.size w (w.alloc (.cells (bv key).toArray 33))) := (Below.refl _ _).alloc (Nat.le_refl _) _
  have HK : Hid (Acc p (w.alloc (.cells (bv key).toArray 33)) (rqc 3 key nilS 0 0 z32) (R (w.alloc (.cells (bv key).toArray 33)))) := K _ HB.out
  have HR0 : Hid ((w.alloc (.cells (bv key).toArray 33)).rangeAt w.heap.size 0 (bv key)) := rng_new w _ _
  have HI : Hid ((Try.prog.info? 33).map (·.size) = some (bv key).length) := by rw [bv_len, hkey]; exact i33
  clear K
  go_enter Try.func12, Try.ntmps12
  go_wp2_with (first
    | refine wpList_load_mid_g (by kernel_rfl) 33 _ (by rfl) w.heap.size 0 (by rfl) (bv key) _ HR0.out Try.underlying33 rfl HI.out ?_
    | refine wpList_bdL (by kernel_rfl) _ _ (by rfl) _ bd ?_
    | (go_at_call 26; refine HK.out.mono ?_; rintro e w' ⟨b, ks, c, tag, er, rfl, ht, hb, hk, hR⟩; have hf := an_field (b := b) (ks := ks) (c := c) (er := er) ht; have HR : Hid (R _ w' b ks c tag er) := hR; clear hR HK))
  go_ret
  exact ⟨_, w', b, ks, c, tag, er, rfl, HB.out, HR.out, Below.refl _ _⟩
set_option maxRecDepth 100000 in
set_option maxHeartbeats 1600000 in
theorem put_of {p : Value} {w : World} {key : List Nat} {a : Option Addr} {m cp : Nat} (hkey : key.length = 32) {R : World → World → Value → Value → Int → List Nat → Int → Prop} (K : ∀ w1, Below w.heap.size w w1 → Acc p w1 (rqc 2 key (.slice a m cp) 0 0 z32) (R w1)) :
    Calls Try.prog 11 #[p, .agg (bv key).toArray, .slice a m cp] w fun e w' => ∃ w1 w2 b ks c tag er, e = .returned (.int .i64 er) ∧ Below w.heap.size w w1 ∧ R w1 w2 b ks c tag er ∧ Below w2.heap.size w2 w' := by
  have bd := built77_keyb 2 hkey a m cp
  have HB : Hid (Below w.heap.size w (w.alloc (.cells (bv key).toArray 33))) := (Below.refl _ _).alloc (Nat.le_refl _) _
  have HK : Hid (Acc p (w.alloc (.cells (bv key).toArray 33)) (rqc 2 key (.slice a m cp) 0 0 z32) (R (w.alloc (.cells (bv key).toArray 33)))) := K _ HB.out
  have HR0 : Hid ((w.alloc (.cells (bv key).toArray 33)).rangeAt w.heap.size 0 (bv key)) := rng_new w _ _
  have HI : Hid ((Try.prog.info? 33).map (·.size) = some (bv key).length) := by rw [bv_len, hkey]; exact i33
  clear K
  go_enter Try.func11, Try.ntmps11
  go_wp2_with (first
    | refine wpList_load_mid_g (by kernel_rfl) 33 _ (by rfl) w.heap.size 0 (by rfl) (bv key) _ HR0.out Try.underlying33 rfl HI.out ?_
    | refine wpList_bdL (by kernel_rfl) _ _ (by rfl) _ bd ?_
    | (go_at_call 26; refine HK.out.mono ?_; rintro e w' ⟨b, ks, c, tag, er, rfl, ht, hb, hk, hR⟩; have hf := an_field (b := b) (ks := ks) (c := c) (er := er) ht; have HR : Hid (R _ w' b ks c tag er) := hR; clear hR HK))
  go_ret
  exact ⟨_, w', b, ks, c, tag, er, rfl, HB.out, HR.out, Below.refl _ _⟩
set_option maxRecDepth 100000 in
set_option maxHeartbeats 1600000 in
theorem setreg_of {p : Value} {w : World} {rc : Int} {rt : List Nat} (hrt : rt.length = 32) {R : World → World → Value → Value → Int → List Nat → Int → Prop} (K : ∀ w1, Below w.heap.size w w1 → Acc p w1 (rqc 10 z32 nilS 0 rc rt) (R w1)) :
    Calls Try.prog 16 #[p, .agg (rgc rc rt).toArray] w fun e w' => ∃ w1 w2 b ks c tag er, e = .returned (.int .i64 er) ∧ Below w.heap.size w w1 ∧ R w1 w2 b ks c tag er ∧ Below w2.heap.size w2 w' := by
  have bd := built77_r 10 rc hrt
  have HB : Hid (Below w.heap.size w (w.alloc (.cells (rgc rc rt).toArray 39))) := (Below.refl _ _).alloc (Nat.le_refl _) _
  have HK : Hid (Acc p (w.alloc (.cells (rgc rc rt).toArray 39)) (rqc 10 z32 nilS 0 rc rt) (R (w.alloc (.cells (rgc rc rt).toArray 39)))) := K _ HB.out
  have HR0 : Hid ((w.alloc (.cells (rgc rc rt).toArray 39)).rangeAt w.heap.size 0 (rgc rc rt)) := rng_new w _ _
  have HI : Hid ((Try.prog.info? 39).map (·.size) = some (rgc rc rt).length) := by rw [rgc_len hrt]; exact i39
  clear K
  go_enter Try.func16, Try.ntmps16
  go_wp2_with (first
    | refine wpList_load_mid_g (by kernel_rfl) 39 _ (by rfl) w.heap.size 0 (by rfl) (rgc rc rt) _ HR0.out Try.underlying39 rfl HI.out ?_
    | refine wpList_bdL (by kernel_rfl) _ _ (by rfl) _ bd ?_
    | (go_at_call 26; refine HK.out.mono ?_; rintro e w' ⟨b, ks, c, tag, er, rfl, ht, hb, hk, hR⟩; have hf := an_field (b := b) (ks := ks) (c := c) (er := er) ht; have HR : Hid (R _ w' b ks c tag er) := hR; clear hR HK))
  go_ret
  exact ⟨_, w', b, ks, c, tag, er, rfl, HB.out, HR.out, Below.refl _ _⟩
end Go.Proofs.Ythjcndlapelnlaa
