import Derived.Test.YtpmdjopojcgpeaaGreatDoorBuq
import Derived.Test.YtpmdjopojcgpeaaGreatDoorLmq
import Derived.Test.YtpmdjopojcgpeaaGreatDoorHqq
import Derived.Test.YtpmdjopojcgpeaaGreatDoorBsq
/-
  A nil device: access, and the ten calls.
-/
namespace Go.Proofs.YtpmdjopojcgpeaaGreatDoor
open Go.RowKit

theorem res1 {fn : Func} {p : Tmp} {ty : TypeId} (h : fn.results = #[.cell p ty]) (tmps : Array Value) (w : World) (g : Nat) (v : Value)
    (hp : tmps.getD p undef = .pointer (some ⟨g, 0, none⟩)) (hl : (loadVar ty ⟨g, 0, none⟩).run Tryz.prog w = .ok v w) :
    (results fn tmps).run Tryz.prog w = .ok v w := by
  have hp' : tmps[p]?.getD undef = .pointer (some ⟨g, 0, none⟩) := by simpa using hp
  simp [results, h, hp', asAddr, hl]
theorem zero_of_info {t : TypeId} {z : Value} {n : Nat} (h : (Tryz.prog.info? t).map (fun i => (i.zero, i.size)) = some (some z, n)) : ∀ w, (zeroValue t).run Tryz.prog w = .ok z w := fun w => by
  cases hq : Tryz.prog.info? t with
  | none => simp [hq] at h
  | some i =>
    simp [hq] at h
    simp [zeroValue, typeInfo, hq, h.1]
theorem zero74 : (Tryz.prog.info? 161).map (fun i => (i.zero, i.size)) = some (some (.agg (anc nilS nilS 0 z32 0).toArray), 36) := by kernel_rfl
theorem zv74 (w : World) : (zeroValue 161).run Tryz.prog w = .ok (.agg (anc nilS nilS 0 z32 0).toArray) w := zero_of_info zero74 w
theorem anc_one {b ks : Value} {c : Int} {tag : List Nat} {e : Int} (hb : b.oneCell' = true) (hk : ks.oneCell' = true) : (anc b ks c tag e).toArray.all (·.oneCell') = true := by
  refine all_oneCell_toArray (fun x hx => ?_)
  unfold anc rgc bv at hx
  simp only [List.mem_cons, List.mem_append, List.mem_map, List.not_mem_nil, or_false] at hx
  rcases hx with rfl | rfl | ((rfl | ⟨y, _, rfl⟩) | rfl)
  · exact hb
  · exact hk
  · rfl
  · rfl
  · rfl
theorem i74' {b ks : Value} {c : Int} {tag : List Nat} {e : Int} (h : tag.length = 32) : (Tryz.prog.info? 161).map (·.size) = some (anc b ks c tag e).length := by rw [anc_len h]; exact i74
theorem res74 {fn : Func} {p : Tmp} (h : fn.results = #[.cell p 161]) (tmps : Array Value) (w : World) (g : Nat) {b ks : Value} {c : Int} {tag : List Nat} {e : Int} (ht : tag.length = 32) (hg : w.rangeAt g 0 (anc b ks c tag e)) (hp : tmps.getD p undef = .pointer (some ⟨g, 0, none⟩)) :
    (results fn tmps).run Tryz.prog w = .ok (.agg (anc b ks c tag e).toArray) w :=
  res1 h tmps w g _ hp (run_loadVar_mid w g 0 161 _ _ hg Tryz.underlying161 rfl (i74' ht))
theorem built74e (e : Int) : Tryz.prog.built 161 [(3, .int .i64 e)] = some (anc nilS nilS 0 z32 e).toArray := by kernel_rfl

set_option maxRecDepth 100000 in
set_option maxHeartbeats 1600000 in
theorem access_nil (w : World) (L : Array Value) :
    Calls Tryz.prog 90 #[.pointer none, .agg L] w fun e w' => e = .returned (.agg (anc nilS nilS 0 z32 1).toArray) ∧ Below w.heap.size w w' := by
  have hz := zv74
  have g0 : ((w.alloc (.cells L 164)).alloc (.cells (anc nilS nilS 0 z32 0).toArray 161)).heap[w.heap.size + 1]? = some (.cells (anc nilS nilS 0 z32 0).toArray 161 (0, 0)) := by
    have := heap_alloc_new (w.alloc (.cells L 164)) (.cells (anc nilS nilS 0 z32 0).toArray 161)
    simpa using this
  have bd := built74e 1
  have o1 : (anc nilS nilS 0 z32 1).toArray.all (·.oneCell') = true := anc_one rfl rfl
  have HB : Hid (Below w.heap.size w ((w.alloc (.cells L 164)).alloc (.cells (anc nilS nilS 0 z32 0).toArray 161))) := ((Below.refl w.heap.size w).alloc (Nat.le_refl _) _).alloc (by simp) _
  have HI : Hid ((Tryz.prog.info? 161).map (·.size) = some (anc nilS nilS 0 z32 1).length ∧ (anc nilS nilS 0 z32 1).length = (anc nilS nilS 0 z32 0).length) := ⟨i74' z32_len, by rw [anc_len z32_len, anc_len z32_len]⟩
  go_enter Tryz.func90, Tryz.ntmps90
  go_wp2_with (first
    | refine wpList_bdL (by kernel_rfl) _ _ (by rfl) _ bd ?_
    | refine wpList_stB (by kernel_rfl) _ _ _ (by rfl) _ (anc nilS nilS 0 z32 1) (anc nilS nilS 0 z32 0) HI.out.1 HI.out.2 o1 g0 (by rfl) (by rfl) ?_)
  have hr := setRow_heap' (cs' := (anc nilS nilS 0 z32 1).toArray) g0
  exact bodyPost_ret (res74 rfl _ _ (w.heap.size + 1) z32_len (rng_row hr) rfl) rfl ⟨rfl, below_setRow HB.out (by omega) _⟩

/-! ### the ten calls, whatever access does -/
/-- what an access is told to come to -/
def Acc (p : Value) (w : World) (L : List Value) (R : World → Value → Value → Int → List Nat → Int → Prop) : Prop :=
  Calls Tryz.prog 90 #[p, .agg L.toArray] w fun e w' => ∃ b ks c tag er, e = .returned (.agg (anc b ks c tag er).toArray) ∧ (tag.length = 32 ∧ b.oneCell' = true ∧ ks.oneCell' = true ∧ R w' b ks c tag er)
theorem acc_nil (w : World) (L : List Value) : Acc (.pointer none) w L (fun w' b ks c tag er => b = nilS ∧ ks = nilS ∧ c = 0 ∧ tag = z32 ∧ er = 1 ∧ Below w.heap.size w w') :=
  (access_nil w L.toArray).mono (by
    rintro e w' ⟨rfl, hb⟩
    exact ⟨nilS, nilS, 0, z32, 1, rfl, z32_len, rfl, rfl, rfl, rfl, rfl, rfl, rfl, hb⟩)
theorem an_at {w : World} {g : Nat} {b ks : Value} {c : Int} {tag : List Nat} {er : Int} (ht : tag.length = 32) (h : w.rangeAt g 0 (anc b ks c tag er)) :
    w.cell? ⟨g, 0, none⟩ = some b ∧ w.cell? ⟨g, 1, none⟩ = some ks ∧ w.rangeAt g 2 (rgc c tag) ∧ w.cell? ⟨g, 35, none⟩ = some (.int .i64 er) := by
  obtain ⟨h1, h2⟩ := rng_head h
  obtain ⟨h3, h4⟩ := rng_head h2
  have h5 := rng_left h4
  have h6 := rng_right h4
  rw [rgc_len ht] at h6
  exact ⟨h1, h3, h5, (rng_head h6).1⟩
theorem an_field {b ks : Value} {c : Int} {tag : List Nat} {er : Int} (ht : tag.length = 32) (w : World) : (Instr.field 161 (.agg (anc b ks c tag er).toArray) 3).run Tryz.prog w = .ok (.int .i64 er) w := by
  have e : (anc b ks c tag er)[35]? = some (.int .i64 er) := by
    have h : anc b ks c tag er = (b :: ks :: rgc c tag) ++ [.int .i64 er] := by simp [anc]
    rw [h, List.getElem?_append_right (by simp [rgc_len ht])]
    simp [rgc_len ht]
  simp [Instr.field, run_underlying Tryz.underlying161, asAgg, part, go_sem]
  rw [e]
  rfl
set_option maxRecDepth 100000 in
set_option maxHeartbeats 1600000 in
theorem put_of {p : Value} {w : World} {key : List Nat} {a : Option Addr} {m cp : Nat} (hkey : key.length = 32) {R : World → World → Value → Value → Int → List Nat → Int → Prop} (K : ∀ w1, Below w.heap.size w w1 → Acc p w1 (rqc 2 key (.slice a m cp) 0 0 z32) (R w1)) :
    Calls Tryz.prog 48 #[p, .agg (bv key).toArray, .slice a m cp] w fun e w' => ∃ w1 w2 b ks c tag er, e = .returned (.int .i64 er) ∧ Below w.heap.size w w1 ∧ R w1 w2 b ks c tag er ∧ Below w2.heap.size w2 w' := by
  have bd := built77_keyb 2 hkey a m cp
  have HB : Hid (Below w.heap.size w (w.alloc (.cells (bv key).toArray 38))) := (Below.refl _ _).alloc (Nat.le_refl _) _
  have HK : Hid (Acc p (w.alloc (.cells (bv key).toArray 38)) (rqc 2 key (.slice a m cp) 0 0 z32) (R (w.alloc (.cells (bv key).toArray 38)))) := K _ HB.out
  have HR0 : Hid ((w.alloc (.cells (bv key).toArray 38)).rangeAt w.heap.size 0 (bv key)) := rng_new w _ _
  have HI : Hid ((Tryz.prog.info? 38).map (·.size) = some (bv key).length) := by rw [bv_len, hkey]; exact i33
  clear K
  go_enter Tryz.func48, Tryz.ntmps48
  go_wp2_with (first
    | refine wpList_load_mid_g (by kernel_rfl) 38 _ (by rfl) w.heap.size 0 (by rfl) (bv key) _ HR0.out Tryz.underlying38 rfl HI.out ?_
    | refine wpList_bdL (by kernel_rfl) _ _ (by rfl) _ bd ?_
    | (go_at_call 90; refine HK.out.mono ?_; rintro e w' ⟨b, ks, c, tag, er, rfl, ht, hb, hk, hR⟩; have hf := an_field (b := b) (ks := ks) (c := c) (er := er) ht; have HR : Hid (R _ w' b ks c tag er) := hR; clear hR HK))
  go_ret
  exact ⟨_, w', b, ks, c, tag, er, rfl, HB.out, HR.out, Below.refl _ _⟩
end Go.Proofs.YtpmdjopojcgpeaaGreatDoor

/-
  Get, List, Read, Reg, whatever access does.
-/
namespace Go.Proofs.YtpmdjopojcgpeaaGreatDoor
open Go.RowKit

set_option maxRecDepth 100000 in
set_option maxHeartbeats 1600000 in
theorem get_of {p : Value} {w : World} {key : List Nat} (hkey : key.length = 32) {R : World → World → Value → Value → Int → List Nat → Int → Prop} (K : ∀ w1, Below w.heap.size w w1 → Acc p w1 (rqc 1 key nilS 0 0 z32) (R w1)) :
    Calls Tryz.prog 43 #[p, .agg (bv key).toArray] w fun e w' => ∃ w1 w2 b ks c tag er, e = .returned (.tuple #[b, .int .i64 er]) ∧ Below w.heap.size w w1 ∧ R w1 w2 b ks c tag er ∧ Below w2.heap.size w2 w' := by
  have bd := built77_key 1 hkey
  have hz := zv74
  have HB : Hid (Below w.heap.size w (w.alloc (.cells (bv key).toArray 38))) := (Below.refl _ _).alloc (Nat.le_refl _) _
  have HK : Hid (Acc p (w.alloc (.cells (bv key).toArray 38)) (rqc 1 key nilS 0 0 z32) (R (w.alloc (.cells (bv key).toArray 38)))) := K _ HB.out
  have HR0 : Hid ((w.alloc (.cells (bv key).toArray 38)).rangeAt w.heap.size 0 (bv key)) := rng_new w _ _
  have HI : Hid ((Tryz.prog.info? 38).map (·.size) = some (bv key).length) := by rw [bv_len, hkey]; exact i33
  clear K
  go_enter Tryz.func43, Tryz.ntmps43
  go_wp2_with (first
    | refine wpList_load_mid_g (by kernel_rfl) 38 _ (by rfl) w.heap.size 0 (by rfl) (bv key) _ HR0.out Tryz.underlying38 rfl HI.out ?_
    | refine wpList_bdL (by kernel_rfl) _ _ (by rfl) _ bd ?_
    | (go_at_call 90; refine HK.out.mono ?_; rintro e w' ⟨b, ks, c, tag, er, rfl, ht, hb, hk, hR⟩; have ho := anc_one (c := c) (tag := tag) (e := er) hb hk; have HL : Hid ((Tryz.prog.info? 161).map (·.size) = some (anc b ks c tag er).length ∧ (anc b ks c tag er).length = (anc nilS nilS 0 z32 0).length) := ⟨i74' ht, by rw [anc_len ht, anc_len z32_len]⟩; have HA : Hid ((w'.alloc (.cells (anc b ks c tag er).toArray 161)).rangeAt w'.heap.size 0 (anc b ks c tag er)) := rng_new w' _ _; have HR : Hid (R _ w' b ks c tag er) := hR; clear hR HK)
    | refine wpList_stN (by kernel_rfl) 161 _ _ (by rfl) (anc b ks c tag er) (anc nilS nilS 0 z32 0) HL.out.1 HL.out.2 ho (by rfl) (by rfl) ?_)
  obtain ⟨a0, a1, a2, a3⟩ := an_at ht HA.out
  go_quiet (fail)
  go_wp2_with fail
  go_ret2
  exact ⟨_, w', b, ks, c, tag, er, rfl, HB.out, HR.out, below_drewN ((Below.refl _ _).alloc (Nat.le_refl _) _) _⟩
end Go.Proofs.YtpmdjopojcgpeaaGreatDoor

/-
  A nil device: Up, Choose, Down, Accesses, Media; registerMayBe, and blobsMayBe where there are none.
-/
namespace Go.Proofs.YtpmdjopojcgpeaaGreatDoor
open Go.RowKit

set_option maxRecDepth 100000 in
set_option maxHeartbeats 800000 in
theorem up_nil (w : World) :
    Calls Tryz.prog 25 #[.pointer none] w fun e w' => ∃ v, e = .returned v ∧ w' = w := by
  go_enter Tryz.func25, Tryz.ntmps25
  go_wp2_with fail
  exact bodyPost_end (results_none rfl _ _ _) rfl ⟨_, rfl, rfl⟩
set_option maxRecDepth 100000 in
set_option maxHeartbeats 800000 in
theorem accesses_nil (w : World) :
    Calls Tryz.prog 18 #[.pointer none] w fun e w' => e = .returned nilS ∧ w' = w := by
  go_enter Tryz.func18, Tryz.ntmps18
  go_wp2_with fail
  go_ret
  exact ⟨rfl, rfl⟩

/-! ### Media of a nil device: nothing -/
theorem zero54 : (Tryz.prog.info? 68).map (fun i => (i.zero, i.size)) = some (some (.agg (mdc 0 0 nilS nilS 0 z32).toArray), 37) := by kernel_rfl
theorem zv54 (w : World) : (zeroValue 68).run Tryz.prog w = .ok (.agg (mdc 0 0 nilS nilS 0 z32).toArray) w := zero_of_info zero54 w
theorem built54_0 : Tryz.prog.built 68 [] = some (mdc 0 0 nilS nilS 0 z32).toArray := by kernel_rfl
theorem mdc_one {s r : Int} {b l : Value} {c : Int} {tag : List Nat} (hb : b.oneCell' = true) (hl : l.oneCell' = true) : (mdc s r b l c tag).toArray.all (·.oneCell') = true := by
  refine all_oneCell_toArray (fun x hx => ?_)
  unfold mdc rgc bv at hx
  simp only [List.mem_cons, List.mem_map] at hx
  rcases hx with rfl | rfl | rfl | rfl | rfl | ⟨y, _, rfl⟩
  · rfl
  · rfl
  · exact hb
  · exact hl
  · rfl
  · rfl
theorem i54' {s r : Int} {b l : Value} {c : Int} {tag : List Nat} (h : tag.length = 32) : (Tryz.prog.info? 68).map (·.size) = some (mdc s r b l c tag).length := by rw [mdc_len h]; exact i54
set_option maxRecDepth 100000 in
set_option maxHeartbeats 1600000 in
theorem media_nil (w : World) :
    Calls Tryz.prog 28 #[.pointer none] w fun e w' => e = .returned (.agg (mdc 0 0 nilS nilS 0 z32).toArray) ∧ Below w.heap.size w w' := by
  have hz := zv54
  have g0 : (w.alloc (.cells (mdc 0 0 nilS nilS 0 z32).toArray 68)).heap[w.heap.size]? = some (.cells (mdc 0 0 nilS nilS 0 z32).toArray 68 (0, 0)) := heap_alloc_new w _
  have bd := built54_0
  have o1 : (mdc 0 0 nilS nilS 0 z32).toArray.all (·.oneCell') = true := mdc_one rfl rfl
  have HB : Hid (Below w.heap.size w (w.alloc (.cells (mdc 0 0 nilS nilS 0 z32).toArray 68))) := (Below.refl w.heap.size w).alloc (Nat.le_refl _) _
  have HI : Hid ((Tryz.prog.info? 68).map (·.size) = some (mdc 0 0 nilS nilS 0 z32).length) := i54' z32_len
  go_enter Tryz.func28, Tryz.ntmps28
  go_wp2_with (first
    | refine wpList_bdL (by kernel_rfl) _ _ (by rfl) _ bd ?_
    | refine wpList_stB (by kernel_rfl) _ _ _ (by rfl) _ (mdc 0 0 nilS nilS 0 z32) (mdc 0 0 nilS nilS 0 z32) HI.out rfl o1 g0 (by rfl) (by rfl) ?_)
  have hr := setRow_heap' (cs' := (mdc 0 0 nilS nilS 0 z32).toArray) g0
  exact bodyPost_ret (res1 rfl _ _ w.heap.size _ rfl (run_loadVar_mid _ w.heap.size 0 68 _ _ (rng_row hr) Tryz.underlying68 rfl HI.out)) rfl ⟨rfl, below_setRow HB.out (by omega) _⟩
end Go.Proofs.YtpmdjopojcgpeaaGreatDoor

/-
  media.registerMayBe; media.blobsMayBe where there are no blobs.
-/
namespace Go.Proofs.YtpmdjopojcgpeaaGreatDoor
open Go.RowKit

def regB (c : Int) (tag : List Nat) : Bool := if c = 0 then decide (tag = z32) else cntB c
theorem built33_0 : Tryz.prog.built 38 [] = some (bv z32).toArray := by kernel_rfl
theorem eql33 {k k' : List Nat} (h : IsH k) (h' : IsH k') : ∀ u, (binOp .eql 38 (.agg (bv k).toArray) (.agg (bv k').toArray)).run Tryz.prog u = .ok (.bool (decide (k = k'))) u := fun u => by
  rw [run_eql_struct, show (bv k).toArray = hA k from rfl, show (bv k').toArray = hA k' from rfl, eqH_any u k k' h h']
  rfl
theorem eql39 {c c' : Int} {k k' : List Nat} (h : IsH k) (h' : IsH k') : ∀ u, (binOp .eql 66 (.agg (rgc c k).toArray) (.agg (rgc c' k').toArray)).run Tryz.prog u = .ok (.bool (decide (c = c') && decide (k = k'))) u := fun u => by
  rw [run_eql_struct, eqR_any u c c' k k' h h']
  rfl
set_option maxRecDepth 100000 in
set_option maxHeartbeats 1600000 in
theorem register_any (w : World) (c : Int) (tag : List Nat) (h : IsH tag) :
    Calls Tryz.prog 84 #[.agg (rgc c tag).toArray] w fun e w' => e = .returned (.bool (regB c tag)) ∧ Below w.heap.size w w' := by
  have hr := rng_new w (rgc c tag) 66
  have c0 : (w.alloc (.cells (rgc c tag).toArray 66)).cell? ⟨w.heap.size, 0, none⟩ = some (.int .i64 c) := (rng_head hr).1
  have HT : Hid ((w.alloc (.cells (rgc c tag).toArray 66)).rangeAt w.heap.size 1 (bv tag)) := (rng_head hr).2
  have HI : Hid ((Tryz.prog.info? 38).map (·.size) = some (bv tag).length) := by rw [bv_len, h.1]; exact i33
  have je := eql33 h isH_z32
  have bd := built33_0
  obtain ⟨L, hL⟩ : ∃ L, L = (rgc c tag).toArray := ⟨_, rfl⟩
  rw [← hL] at c0 HT ⊢
  have HB : Hid (Below w.heap.size w (w.alloc (.cells L 66))) := (Below.refl _ _).alloc (Nat.le_refl _) _
  clear hr hL
  by_cases hc : c = 0
  · have HE : Hid (regB c tag = decide (tag = z32)) := if_pos hc
    go_enter Tryz.func84, Tryz.ntmps84
    go_wp2_with (first
      | refine wpList_load_mid_g (by kernel_rfl) 38 _ (by rfl) w.heap.size 1 (by rfl) (bv tag) _ HT.out Tryz.underlying38 rfl HI.out ?_
      | refine wpList_bdL (by kernel_rfl) _ _ (by rfl) _ bd ?_)
    go_ret
    exact ⟨by rw [HE.out]; rfl, HB.out⟩
  · have HE : Hid (regB c tag = cntB c) := if_neg hc
    go_enter Tryz.func84, Tryz.ntmps84
    go_wp2_with (go_at_call 123; refine (count_any _ c).mono ?_; rintro e w' ⟨rfl, rfl⟩)
    go_ret
    exact ⟨by rw [HE.out]; rfl, HB.out⟩
set_option maxRecDepth 100000 in
set_option maxHeartbeats 1600000 in
theorem blobs_none (w : World) (sl rm : Int) (lg : Value) (c : Int) (tag : List Nat) (h : 1 ≤ sl) :
    Calls Tryz.prog 83 #[.agg (mdc sl rm nilS lg c tag).toArray] w fun e w' => e = .returned (.bool true) ∧ Below w.heap.size w w' := by
  have hr := rng_new w (mdc sl rm nilS lg c tag) 68
  have c0 : (w.alloc (.cells (mdc sl rm nilS lg c tag).toArray 68)).cell? ⟨w.heap.size, 0, none⟩ = some (.int .i64 sl) := hr 0 _ rfl
  have c2 : (w.alloc (.cells (mdc sl rm nilS lg c tag).toArray 68)).cell? ⟨w.heap.size, 2, none⟩ = some (.slice none 0 0) := hr 2 _ rfl
  obtain ⟨L, hL⟩ : ∃ L, L = (mdc sl rm nilS lg c tag).toArray := ⟨_, rfl⟩
  rw [← hL] at c0 c2 ⊢
  have HB : Hid (Below w.heap.size w (w.alloc (.cells L 68))) := (Below.refl _ _).alloc (Nat.le_refl _) _
  have hs : (0 : Int) < sl := by omega
  clear hr hL
  go_enter Tryz.func83, Tryz.ntmps83
  go_wp2_with fail
  refine wp_loop_once ?_
  go_wp2_with fail
  go_ret
  exact ⟨rfl, HB.out⟩
end Go.Proofs.YtpmdjopojcgpeaaGreatDoor

/-
  Accesses in memory: slices.Clone of accesses, (*Device).Accesses.
-/
namespace Go.Proofs.YtpmdjopojcgpeaaGreatDoor
open Go.RowKit

/-- an access as data -/
structure Acn where
  k : Int
  n : Int
  m : Bool
def Acn.cells (c : Acn) : List Value := [.int .i64 c.k, .int .i64 c.n, .bool c.m]
/-- THE VALUE v IS A LIST OF THE ACCESSES C. -/
def Acs (w : World) (v : Value) (C : List Acn) : Prop :=
  ∃ (a : Option Addr) (b off c : Nat), v = .slice a C.length c ∧ (0 < C.length → a = some ⟨b, off, none⟩) ∧ (∀ (i : Nat) (x : Acn), C[i]? = some x → w.rangeAt b (off + i * 3) x.cells) ∧ C.length ≤ c ∧ (a = none → c = 0) ∧ C.length ≤ 5864062014464
theorem Acs.keep {w w' : World} {v : Value} {C : List Acn} (h : Acs w v C) (k : Below w.heap.size w w') : Acs w' v C := by
  obtain ⟨a, b, off, c, e, h1, h2, r⟩ := h
  exact ⟨a, b, off, c, e, h1, fun i x hx => rng_keep (h2 i x hx) k, r⟩
def acc3 : List Acn → List Value
  | [] => []
  | x :: C => x.cells ++ acc3 C
theorem ac_len (C : List Acn) : (acc3 C).length = C.length * 3 := by
  induction C with
  | nil => rfl
  | cons x C ih => simp only [acc3, List.length_append, List.length_cons, ih, Acn.cells, List.length_nil]; omega
theorem ac_at : ∀ (C : List Acn) (i : Nat) (x : Acn), C[i]? = some x → ∀ (j : Nat) (v : Value), x.cells[j]? = some v → (acc3 C)[i * 3 + j]? = some v
  | y :: C, 0, x, h, j, v, hv => by
    simp at h
    subst h
    simp only [acc3, Nat.zero_mul, Nat.zero_add]
    rw [List.getElem?_append_left (List.getElem?_eq_some_iff.1 hv).1]
    exact hv
  | y :: C, i + 1, x, h, j, v, hv => by
    have := ac_at C i x (by simpa using h) j v hv
    simp only [acc3]
    have e : y.cells.length = 3 := rfl
    rw [List.getElem?_append_right (by rw [e]; omega), e, show (i + 1) * 3 + j - 3 = i * 3 + j by omega]
    exact this
theorem ac_inv : ∀ (C : List Acn) (k : Nat) (v : Value), (acc3 C)[k]? = some v → ∃ i x j, C[i]? = some x ∧ x.cells[j]? = some v ∧ k = i * 3 + j
  | y :: C, k, v, h => by
    simp only [acc3] at h
    have e : y.cells.length = 3 := rfl
    rcases Nat.lt_or_ge k 3 with q | q
    · rw [List.getElem?_append_left (by rw [e]; exact q)] at h
      exact ⟨0, y, k, rfl, h, by omega⟩
    · rw [List.getElem?_append_right (by rw [e]; exact q), e] at h
      obtain ⟨i, x, j, h1, h2, h3⟩ := ac_inv C (k - 3) v h
      exact ⟨i + 1, x, j, by simpa using h1, h2, by omega⟩
theorem ac_one (C : List Acn) : ∀ u ∈ acc3 C, u.oneCell' = true := fun u hu => by
  obtain ⟨k, hk, e⟩ := List.getElem_of_mem hu
  obtain ⟨i, x, j, h1, h2, _⟩ := ac_inv C k u (by rw [← e]; exact List.getElem?_eq_getElem hk)
  have := List.mem_of_getElem? h2
  simp only [Acn.cells, List.mem_cons, List.not_mem_nil, or_false] at this
  rcases this with rfl | rfl | rfl <;> rfl
theorem info82 : (Tryz.prog.info? 120).map (fun i => (i.zero, i.size, i.bytes)) = some (some (.agg #[.int .i64 0, .int .i64 0, .bool false]), 3, 24) := by kernel_rfl
/-- A LIST OF ACCESSES in a block of its own. -/
abbrev Acs3 (w : World) (B : Nat) (v : Value) (C : List Acn) : Prop := w.ownsRow B 120 3 v C.length (acc3 C)
theorem acs3_acs {w : World} {B : Nat} {v : Value} {C : List Acn} (h : Acs3 w B v C) (hl : C.length ≤ 5864062014464) : Acs w v C := by
  rcases h.2 with ⟨rfl, h0⟩ | ⟨g, cap, cur, rfl, hB, hg, h1, h2, h3, h4⟩
  · exact ⟨none, 0, 0, 0, by rw [h0], fun k => by omega, fun i x hx => by have := (List.getElem?_eq_some_iff.1 hx).1; omega, by omega, fun _ => rfl, hl⟩
  · refine ⟨_, g, 0, cap, rfl, fun _ => rfl, fun i x hx j v hv => ?_, h1, (fun z => by cases z), hl⟩
    have := World.ownsRow.cells h (g := g) rfl (i * 3 + j) v (ac_at C i x hx j v hv)
    rw [add_flat] at this
    rw [Nat.zero_add]
    exact this
set_option maxRecDepth 100000 in
set_option maxHeartbeats 800000 in
theorem aclone_any {w : World} {v : Value} {C : List Acn} (h : Acs w v C) :
    Calls Tryz.prog 53 #[v] w fun e w' => ∃ u, e = .returned u ∧ Acs3 w' w.heap.size u C ∧ Below w.heap.size w w' := by
  obtain ⟨a, b, off, c, rfl, h1, h2, h3, h4, h5⟩ := h
  cases a with
  | none =>
    have hs : C.length = 0 := by
      rcases Nat.eq_zero_or_pos C.length with e | e
      · exact e
      · cases h1 e
    have hc := h4 rfl
    have es : C = [] := List.length_eq_zero_iff.1 hs
    subst es
    subst hc
    clear h1 h2 h3 h4 h5 hs
    simp only [List.length_nil]
    have jn : ∀ u, (binOp .eql 44 (.slice none 0 0) (.slice none 0 0)).run Tryz.prog u = .ok (.bool true) u := fun u => Lib.run_eql_slice_nil u 44 120 none 0 0 0 0 Tryz.underlying44
    go_enter Tryz.func53, Tryz.ntmps53
    go_wp2_with fail
    go_ret
    exact ⟨_, rfl, World.ownsRow_nil _ _ _ _, Below.refl _ _⟩
  | some p =>
    obtain ⟨i0, hi0, hz0, hz1, hz2⟩ := info_parts info82
    have HI : Hid (Tryz.prog.info? 120 = some i0 ∧ i0.zero = some (.agg #[.int .i64 0, .int .i64 0, .bool false]) ∧ i0.size = 3 ∧ i0.bytes = 24) := ⟨hi0, hz0, hz1, hz2⟩
    have HO : Hid ((w.alloc (.cells #[] 120)).ownsRow w.heap.size 120 3 (.slice (some ⟨w.heap.size, 0, none⟩) 0 0) 0 []) := World.ownsRow_lit (base := w.heap.size) (e := 120) (size := 3) w #[] 0 (Nat.le_refl _) (by decide) rfl
    have HC : Hid (∀ j u, (acc3 C)[j]? = some u → (w.alloc (.cells #[] 120)).cell? (p.add j) = some u) := fun j u hu => by
      obtain ⟨i, x, k, e1, e2, e3⟩ := ac_inv C j u hu
      have hp : p = ⟨b, off, none⟩ := Option.some.inj (h1 (by have := (List.getElem?_eq_some_iff.1 e1).1; omega))
      subst hp
      have := rng_keep (h2 i x e1) ((Below.refl w.heap.size w).alloc (Nat.le_refl _) (.cells #[] 120)) k u e2
      rw [Go.WideShapes.add_plain, e3, ← Nat.add_assoc]
      exact this
    have HL : Hid ((acc3 C).length = C.length * 3) := ac_len C
    obtain ⟨n, en⟩ : ∃ n, n = C.length := ⟨_, rfl⟩
    have HN : Hid (n = C.length) := en
    rw [← en] at h3 h5 HL ⊢
    clear h1 h2 h4 en hi0 hz0 hz1 hz2
    have jn : ∀ u, (binOp .eql 44 (.slice (some p) n c) (.slice none 0 0)).run Tryz.prog u = .ok (.bool false) u := fun u => Lib.run_eql_slice_nil u 44 120 (some p) n c 0 0 Tryz.underlying44
    go_enter Tryz.func53, Tryz.ntmps53
    go_wp2_with (at_builtin; go_loud (refine wpList_append_own _ (by rfl) (.tmp 5) (.tmp 6) 44 (by rfl) w.heap.size 120 i0 _ 3 24 Tryz.underlying44 HI.out.1 HI.out.2.1 HI.out.2.2.1 HI.out.2.2.2 (by rfl) (by decide) _ 0 [] (by rfl) HO.out p n c (acc3 C) (by rfl) HL.out HC.out (ac_one C) (by unfold maxLen; omega) (by omega) (by simp) ?_))
    intro v3 w3 own3 gr3 nn3
    have b3 : Below w.heap.size w w3 := ((Below.refl _ _).alloc (Nat.le_refl _) _).trans (grown_below gr3 HO.out (Nat.le_refl _) (by simp))
    have H3 : Hid (w3.ownsRow w.heap.size 120 3 v3 n (acc3 C) ∧ Below w.heap.size w w3) := ⟨by simpa using own3, b3⟩
    obtain ⟨a3, c3, e3⟩ := own_slice own3
    subst e3
    clear own3 gr3 nn3 b3 HO HC
    go_wp2_with fail
    go_ret
    exact ⟨_, rfl, by show w3.ownsRow _ _ _ _ C.length _; rw [← HN.out]; exact H3.out.1, H3.out.2⟩
set_option maxRecDepth 100000 in
set_option maxHeartbeats 800000 in
theorem accesses_any {w : World} {g : Nat} {d : Dvf} {C : List Acn} (h : Db w g d) (ha : Acs w d.ac C) :
    Calls Tryz.prog 18 #[.pointer (some ⟨g, 0, none⟩)] w fun e w' => ∃ u, e = .returned u ∧ Acs3 w' w.heap.size u C ∧ Below w.heap.size w w' := by
  obtain ⟨c0, c1, c2, c3, c4, c5, c6, c7, c8, c9, c10, c11⟩ := h.at_
  have HK : Hid (Calls Tryz.prog 53 #[d.ac] w fun e w' => ∃ u, e = .returned u ∧ Acs3 w' w.heap.size u C ∧ Below w.heap.size w w') := aclone_any ha
  obtain ⟨a, b, off, c, e, _⟩ := ha
  rw [e] at c7 HK
  clear h e c0 c1 c2 c3 c4 c5 c6 c8 c9 c10 c11
  go_enter Tryz.func18, Tryz.ntmps18
  go_wp2_with (go_at_call 53; refine HK.out.mono ?_; rintro e w' ⟨u, rfl, hu, hb⟩; have HU : Hid (Acs3 w' w.heap.size u C ∧ Below w.heap.size w w') := ⟨hu, hb⟩; clear hu hb HK)
  go_ret
  exact ⟨_, rfl, HU.out.1, HU.out.2⟩
end Go.Proofs.YtpmdjopojcgpeaaGreatDoor
