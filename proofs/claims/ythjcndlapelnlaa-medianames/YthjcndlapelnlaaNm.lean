/-
  cairnlaw08.MediaNames, as far as New makes devices. (Written by gen_nm.py.)
-/
import Derived.Test.YthjcndlapelnlaaNn2
namespace Go.Proofs.Ythjcndlapelnlaa
open Go.RowKit Go.Maps Go.ChangeMaps

/-- New makes a great device -/
def NewG : Prop := ∀ (w : World) (cv : Value) (C : List Cho), Chs w cv C → chsB C = true → Calls Try.prog 5 #[.int .i64 4096, .int .i64 1048576, cv] w fun e w' => ∃ g, e = .returned (.tuple #[.pointer (some ⟨g, 0, none⟩), .int .i64 0]) ∧ Below w.heap.size w w'
theorem wpList_bdT {ops : Array Oper} {rest : List Oper} {op : Oper} {a : Act} {w : World} {Q : Exit → Act → World → Prop} (t : TypeId) (ho : op.op = .build t #[]) (hg : op.guard = none) (cells : Array Value) (hb : Try.prog.built t [] = some cells) (h : wpList Try.prog ops Q rest (a.put op.dst (.agg cells)) w) : wpList Try.prog ops Q (op :: rest) a w :=
  wpList_bdL (by simp [Region.wanted, hg]) t [] ho cells hb h
theorem wpList_bdW {ops : Array Oper} {rest : List Oper} {op : Oper} {a : Act} {w : World} {Q : Exit → Act → World → Prop} (t : TypeId) (ho : op.op = .build t #[]) (hw : Region.wanted op (yielded ops a.tmps) = true) (cells : Array Value) (hb : Try.prog.built t [] = some cells) (h : wpList Try.prog ops Q rest (a.put op.dst (.agg cells)) w) : wpList Try.prog ops Q (op :: rest) a w :=
  wpList_bdL hw t [] ho cells hb h
theorem wpList_stG {ops : Array Oper} {rest : List Oper} {op : Oper} {a : Act} {w : World} {Q : Exit → Act → World → Prop} (T : TypeId) (x y : Operand) (ho : op.op = .store T x y) (hg : op.guard = none) (b : Nat) (cs : Array Value) (hx : a.eval x = .pointer (some ⟨b, 0, none⟩)) (hy : a.eval y = .agg cs) (t : TypeId) (old : Array Value) (hb : w.heap[b]? = some (.cells old t (0, 0))) (hi : (Try.prog.info? T).map (·.size) = some cs.size) (hl : cs.size = old.size) (h1 : cs.all (·.oneCell') = true) (h : wpList Try.prog ops Q rest (a.put op.dst undef) (w.setRow b cs)) : wpList Try.prog ops Q (op :: rest) a w :=
  wpList_g (by simp [Region.wanted, hg]) (wp_store_row T x y ho b cs hx hy t old hb hi (by first | exact hl | exact hl.symm) h1 h)
theorem limB_yes {sl rm : Int} (h1 : 1 ≤ sl) (h2 : sl ≤ 4096) (h3 : 0 ≤ rm) (h4 : rm ≤ 1048576) : limB sl rm = true := decide_eq_true ⟨h1, h2, h3, h4⟩
set_option maxRecDepth 100000 in
set_option maxHeartbeats 12800000 in
theorem names_any (HN0 : NewD 2 10) (HG0 : NewG) (w : World) :
    Calls Try.prog 3 #[] w fun e w' => e = .returned (.bool true) ∧ Below w.heap.size w w' := by
  have HN : Hid (NewD 2 10) := HN0
  have HB : Hid (Below w.heap.size w w) := Below.refl _ _
  obtain ⟨i0, hi0, hz0, hz1, hz2⟩ := info_parts info27
  have mk : ∀ (u : World) (n : Nat), n ≤ 5000 → (Instr.makeSlice 28 (.int .i64 (n : Int)) (.int .i64 (n : Int))).run Try.prog u = .ok (.slice (some ⟨u.heap.size, 0, none⟩) n n) (u.alloc (.cells (madeCells #[.int .i64 0, .int .i64 0, .int .i64 0] (n * 3)) 27)) := fun u n hn => by
    have := run_makeSlice (P := Try.prog) (w := u) 28 27 i0 _ Try.underlying28 hi0 hz0 .i64 .i64 (n : Int) (n : Int) (by omega) (Int.le_refl _) (by rw [hz1]; simp; omega) (by rw [hz2]; omega) (by omega)
    rw [hz1] at this
    simpa [Value.cells] using this
  have mk1 : ∀ u : World, (Instr.makeSlice 28 (.int .i64 4097) (.int .i64 4097)).run Try.prog u = .ok (.slice (some ⟨u.heap.size, 0, none⟩) 4097 4097) (u.alloc (.cells (madeCells #[.int .i64 0, .int .i64 0, .int .i64 0] (4097 * 3)) 27)) := fun u => mk u 4097 (by omega)
  have mk2 : ∀ u : World, (Instr.makeSlice 28 (.int .i64 4096) (.int .i64 4096)).run Try.prog u = .ok (.slice (some ⟨u.heap.size, 0, none⟩) 4096 4096) (u.alloc (.cells (madeCells #[.int .i64 0, .int .i64 0, .int .i64 0] (4096 * 3)) 27)) := fun u => mk u 4096 (by omega)
  generalize eM1 : madeCells #[.int .i64 0, .int .i64 0, .int .i64 0] (4097 * 3) = M1 at mk1
  generalize eM2 : madeCells #[.int .i64 0, .int .i64 0, .int .i64 0] (4096 * 3) = M2 at mk2
  have HN7 : Hid (∀ u : World, Calls Try.prog 5 #[.int .i64 4096, .int .i64 1048576, .slice (some ⟨u.heap.size, 0, none⟩) 4097 4097] (u.alloc (.cells M1 27)) fun e w' => e = .returned (.tuple #[.pointer none, .int .i64 2]) ∧ Below (u.alloc (.cells M1 27)).heap.size (u.alloc (.cells M1 27)) w') := fun u => by
    have hc := chs_made u 4097 (by omega)
    rw [eM1] at hc
    exact new_choices (limB_yes (by omega) (by omega) (by omega) (by omega)) hc (chsB_long 4097 (by omega))
  have HN8 : Hid (∀ u : World, Calls Try.prog 5 #[.int .i64 4096, .int .i64 1048576, .slice (some ⟨u.heap.size, 0, none⟩) 4096 4096] (u.alloc (.cells M2 27)) fun e w' => ∃ g, e = .returned (.tuple #[.pointer (some ⟨g, 0, none⟩), .int .i64 0]) ∧ Below (u.alloc (.cells M2 27)).heap.size (u.alloc (.cells M2 27)) w') := fun u => by
    have hc := chs_made u 4096 (by omega)
    rw [eM2] at hc
    exact HG0 _ _ _ hc (chsB_made 4096 (by omega))
  clear eM1 eM2 mk hi0 hz0 hz1 hz2 HN0 HG0
  have bd0 := built33_0
  have bd9 := built39_0
  have bd4 := built54_0
  have HL9 : Hid ((Try.prog.info? 39).map (·.size) = some (rgc 0 z32).length ∧ (rgc 0 z32).toArray.all (·.oneCell') = true) := ⟨i39' z32_len, rgc_one _ _⟩
  have hz39 := zero_of_info zero39
  obtain ⟨K0, eK0⟩ : ∃ A, A = (bv z32).toArray := ⟨_, rfl⟩
  obtain ⟨R0, eR0⟩ : ∃ A, A = rgc 0 z32 := ⟨_, rfl⟩
  obtain ⟨D0, eD0⟩ : ∃ A, A = (mdc 0 0 nilS nilS 0 z32).toArray := ⟨_, rfl⟩
  have HE : Hid (K0 = (bv z32).toArray ∧ R0 = rgc 0 z32 ∧ D0 = (mdc 0 0 nilS nilS 0 z32).toArray) := ⟨eK0, eR0, eD0⟩
  rw [← eK0] at bd0
  rw [← eR0] at bd9 HL9 hz39
  rw [← eD0] at bd4
  have HGET : Hid (∀ u, Calls Try.prog 7 #[.pointer none, .agg K0] u fun e w' => e = .returned (.tuple #[nilS, .int .i64 1]) ∧ Below u.heap.size u w') := fun u => by rw [eK0]; exact get_nil u z32_len
  have HPUT : Hid (∀ u, Calls Try.prog 11 #[.pointer none, .agg K0, nilS] u fun e w' => e = .returned (.int .i64 1) ∧ Below u.heap.size u w') := fun u => by rw [eK0]; exact put_nil u z32_len
  have HDEL : Hid (∀ u, Calls Try.prog 12 #[.pointer none, .agg K0] u fun e w' => e = .returned (.int .i64 1) ∧ Below u.heap.size u w') := fun u => by rw [eK0]; exact delete_nil u z32_len
  have HREG : Hid (∀ u, Calls Try.prog 10 #[.pointer none] u fun e w' => e = .returned (.tuple #[.agg R0.toArray, .int .i64 1]) ∧ Below u.heap.size u w') := fun u => by rw [eR0]; exact reg_nil u
  have HSRG : Hid (∀ u, Calls Try.prog 16 #[.pointer none, .agg R0.toArray] u fun e w' => e = .returned (.int .i64 1) ∧ Below u.heap.size u w') := fun u => by rw [eR0]; exact setreg_nil u
  have HMED : Hid (∀ u, Calls Try.prog 21 #[.pointer none] u fun e w' => e = .returned (.agg D0) ∧ Below u.heap.size u w') := fun u => by rw [eD0]; exact media_nil u
  have HSAM : Hid (∀ u, Calls Try.prog 20 #[.agg D0, .agg D0] u fun e w' => e = .returned (.bool true) ∧ Below u.heap.size u w') := fun u => by rw [eD0]; exact samemedia_none u
  clear eK0 eR0 eD0
  go_enter Try.func3, Try.ntmps3
  go_wp2_with (go_at_call 5; refine (new_limits _ 0 5 _ rfl).mono ?_; rintro _ u1 ⟨rfl, hb⟩; replace HB : Hid (Below w.heap.size w u1) := ch (HB.out.alloc HB.out.size _) hb; clear hb; change Hid _)
  unfold Hid
  go_wp2_with (go_at_call 5; refine (new_limits _ 4097 5 _ rfl).mono ?_; rintro _ u2 ⟨rfl, hb⟩; replace HB : Hid (Below w.heap.size w u2) := ch HB.out hb; clear hb; change Hid _)
  unfold Hid
  go_wp2_with (go_at_call 5; refine (new_limits _ 1 (-1) _ rfl).mono ?_; rintro _ u3 ⟨rfl, hb⟩; replace HB : Hid (Below w.heap.size w u3) := ch HB.out hb; clear hb; change Hid _)
  unfold Hid
  go_wp2_with (go_at_call 5; refine (new_limits _ 1 1048577 _ rfl).mono ?_; rintro _ u4 ⟨rfl, hb⟩; replace HB : Hid (Below w.heap.size w u4) := ch HB.out hb; clear hb; change Hid _)
  unfold Hid
  go_wp2_with (go_at_call 5; refine (new_choices (sl := 1) (rm := 5) rfl (chs_one u4 ⟨8, 0, 0⟩) rfl).mono ?_; rintro _ u5 ⟨rfl, hb⟩; replace HB : Hid (Below w.heap.size w u5) := ch (HB.out.alloc HB.out.size _) hb; clear hb; change Hid _)
  unfold Hid
  go_wp2_with (go_at_call 5; refine (new_choices (sl := 1) (rm := 5) rfl (chs_one u5 ⟨0, -1, 0⟩) rfl).mono ?_; rintro _ u6 ⟨rfl, hb⟩; replace HB : Hid (Below w.heap.size w u6) := ch (HB.out.alloc HB.out.size _) hb; clear hb; change Hid _)
  unfold Hid
  go_wp2_with (go_at_call 5; refine (HN7.out u6).mono ?_; rintro _ u7 ⟨rfl, hb⟩; replace HB : Hid (Below w.heap.size w u7) := ch (HB.out.alloc HB.out.size _) hb; clear hb; change Hid _)
  unfold Hid
  clear HN7 mk1
  go_wp2_with (go_at_call 5; refine (HN8.out u7).mono ?_; rintro _ u8 ⟨gg, rfl, hb⟩; replace HB : Hid (Below w.heap.size w u8) := ch (HB.out.alloc HB.out.size _) hb; clear hb; change Hid _)
  unfold Hid
  clear HN8 mk2
  go_wp2_with (go_at_call 6; refine (up_nil _).mono ?_; rintro _ _ ⟨vu, rfl, rfl⟩; change Hid _)
  unfold Hid
  go_wp2_with (first | refine wpList_bdT 33 (by rfl) (by rfl) K0 bd0 ?_ | (go_at_call 7; refine (HGET.out _).mono ?_; rintro _ u9 ⟨rfl, hb⟩; replace HB : Hid (Below w.heap.size w u9) := ch HB.out hb; clear hb; change Hid _))
  unfold Hid
  go_wp2_with (go_at_call 8; refine (list_nil _).mono ?_; rintro _ u10 ⟨rfl, hb⟩; replace HB : Hid (Below w.heap.size w u10) := ch HB.out hb; clear hb; change Hid _)
  unfold Hid
  go_wp2_with (go_at_call 9; refine (read_nil _).mono ?_; rintro _ u11 ⟨rfl, hb⟩; replace HB : Hid (Below w.heap.size w u11) := ch HB.out hb; clear hb; change Hid _)
  unfold Hid
  go_wp2_with (go_at_call 10; refine (HREG.out _).mono ?_; rintro _ u12 ⟨rfl, hb⟩; replace HB : Hid (Below w.heap.size w u12) := ch HB.out hb; clear hb; change Hid _)
  unfold Hid
  have hset : (u12.alloc (.cells R0.toArray 39)).setRow u12.heap.size R0.toArray = u12.alloc (.cells R0.toArray 39) := World.setRow_alloc_new _ _ _ _
  replace HB : Hid (Below w.heap.size w (u12.alloc (.cells R0.toArray 39))) := HB.out.alloc HB.out.size _
  obtain ⟨u13, eu13⟩ : ∃ u, u = u12.alloc (.cells R0.toArray 39) := ⟨_, rfl⟩
  rw [← eu13] at HB
  go_wp2_with (first | (refine wpList_stG 39 _ _ (by rfl) (by rfl) u12.heap.size R0.toArray (by rfl) (by rfl) 39 R0.toArray (heap_alloc_new _ _) (by rw [List.size_toArray]; exact HL9.out.1) rfl HL9.out.2 ?_) | refine wpList_bdW 33 (by rfl) (by kernel_rfl) K0 bd0 ?_ | (go_at_call 11; (try rw [hset]); rw [← eu13]; refine (HPUT.out _).mono ?_; rintro _ u14 ⟨rfl, hb⟩; replace HB : Hid (Below w.heap.size w u14) := ch HB.out hb; clear hb; change Hid _))
  unfold Hid
  go_wp2_with (first | refine wpList_bdW 33 (by rfl) (by kernel_rfl) K0 bd0 ?_ | (go_at_call 12; refine (HDEL.out _).mono ?_; rintro _ u15 ⟨rfl, hb⟩; replace HB : Hid (Below w.heap.size w u15) := ch HB.out hb; clear hb; change Hid _))
  unfold Hid
  go_wp2_with (go_at_call 13; refine (append_nil _).mono ?_; rintro _ u16 ⟨rfl, hb⟩; replace HB : Hid (Below w.heap.size w u16) := ch HB.out hb; clear hb; change Hid _)
  unfold Hid
  go_wp2_with (go_at_call 14; refine (trim_nil _ 0).mono ?_; rintro _ u17 ⟨rfl, hb⟩; replace HB : Hid (Below w.heap.size w u17) := ch HB.out hb; clear hb; change Hid _)
  unfold Hid
  go_wp2_with (go_at_call 15; refine (cut_nil _ 0).mono ?_; rintro _ u18 ⟨rfl, hb⟩; replace HB : Hid (Below w.heap.size w u18) := ch HB.out hb; clear hb; change Hid _)
  unfold Hid
  go_wp2_with (first | refine wpList_bdW 39 (by rfl) (by kernel_rfl) R0.toArray bd9 ?_ | (go_at_call 16; refine (HSRG.out _).mono ?_; rintro _ u19 ⟨rfl, hb⟩; replace HB : Hid (Below w.heap.size w u19) := ch HB.out hb; clear hb; change Hid _))
  unfold Hid
  go_wp2_with (go_at_call 17; refine (choose_nil _ _).mono ?_; rintro _ _ ⟨rfl, rfl⟩; change Hid _)
  unfold Hid
  go_wp2_with (go_at_call 18; refine (down_nil _).mono ?_; rintro _ _ ⟨rfl, rfl⟩; change Hid _)
  unfold Hid
  go_wp2_with (go_at_call 19; refine (accesses_nil _).mono ?_; rintro _ _ ⟨rfl, rfl⟩; change Hid _)
  unfold Hid
  go_wp2_with (go_at_call 21; refine (HMED.out _).mono ?_; rintro _ u20 ⟨rfl, hb⟩; replace HB : Hid (Below w.heap.size w u20) := ch HB.out hb; clear hb; change Hid _)
  unfold Hid
  go_wp2_with (first | refine wpList_bdT 54 (by rfl) (by rfl) D0 bd4 ?_ | (go_at_call 20; refine (HSAM.out _).mono ?_; rintro _ u21 ⟨rfl, hb⟩; replace HB : Hid (Below w.heap.size w u21) := ch HB.out hb; clear hb; change Hid _))
  unfold Hid
  go_wp2_with (go_at_call 22; refine (fixed_any HN.out _).mono ?_; rintro _ u22 ⟨rfl, hb⟩; replace HB : Hid (Below w.heap.size w u22) := ch HB.out hb; clear hb; change Hid _)
  unfold Hid
  go_wp2_with fail
  go_ret
  exact ⟨rfl, HB.out⟩
end Go.Proofs.Ythjcndlapelnlaa
