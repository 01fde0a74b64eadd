/-
  cairnlaw08.fixed, as far as New makes a device.
-/
import Derived.Test.YthjcndlapelnlaaDk
import Derived.Lib.SlBytesConst
namespace Go.Proofs.Ythjcndlapelnlaa
open Go.RowKit Go.Maps Go.ChangeMaps

/-- a device that was just made -/
def dst0 (sl rm : Int) : Dst := ⟨sl, rm, fun _ => none, 0, [], 0, z32, [], fun _ => [], 0, []⟩
/-- New makes a device -/
def NewD (sl rm : Int) : Prop := ∀ w, Calls Try.prog 5 #[.int .i64 sl, .int .i64 rm, nilS] w fun e w' => ∃ g, e = .returned (.tuple #[.pointer (some ⟨g, 0, none⟩), .int .i64 0]) ∧ ∃ F, Dev w' F g (dst0 sl rm) 0 nilS ∧ Below w.heap.size w w' ∧ ∀ i, F i → w.heap.size ≤ i
theorem vb_rng {u : World} {b : Nat} {s : List Nat} (h : u.rangeAt b 0 (bv s)) (hb : ∀ x ∈ s, x < 256) (hl : s.length ≤ 1048576) : Vb u (.slice (some ⟨b, 0, none⟩) s.length s.length) s :=
  ⟨_, b, 0, _, rfl, ⟨fun _ => rfl, fun i hi => h i _ (bv_at hi), fun i hi => by have := gd_lt hb i; omega, by omega⟩, Nat.le_refl _, (fun e => by cases e), by omega⟩
theorem rng_newf (w : World) (cs : List Value) (t : TypeId) (fz : Nat × Nat) : (w.alloc (.cells cs.toArray t fz)).rangeAt w.heap.size 0 cs := rng_row (heap_alloc_new _ _)
def k1 : List Nat := 1 :: List.replicate 31 0
theorem isH_k1 : IsH k1 := ⟨by simp [k1], fun x hx => by
  unfold k1 at hx
  rcases List.mem_cons.1 hx with rfl | hx
  · decide
  · have := List.eq_of_mem_replicate hx
    omega⟩
theorem built33_1 : Try.prog.built 33 [(0, .int .u8 1)] = some (bv k1).toArray := by kernel_rfl
/-- bytes that were handed out -/
structure Byt (w : World) (b : Value) (s : List Nat) : Prop where
  own : w.ownsRow 0 5 1 b s.length (bv s)
  ok : s.length ≤ 1048576 ∧ ∀ x ∈ s, x < 256
theorem Byt.conv {w : World} {b : Value} {s : List Nat} (h : Byt w b s) {u : World} (k : Below w.heap.size w u) : (convert 29 9 b).run Try.prog u = .ok (.string (sB s)) u := by
  have hd : Dat u (fun _ => True) b s := ⟨own_off h.own (G := fun _ => False) (Turn.of_below k) (Off.none _ _), fun _ _ => trivial, h.ok⟩
  obtain ⟨a, bb, o, c, rfl, hv, _⟩ := hd.vb
  exact convert_view hv c
set_option maxRecDepth 100000 in
set_option maxHeartbeats 6400000 in
theorem fixed_any (HN0 : NewD 2 10) (w : World) :
    Calls Try.prog 22 #[] w fun e w' => e = .returned (.bool true) ∧ Below w.heap.size w w' := by
  have HN : Hid (NewD 2 10) := HN0
  clear HN0
  go_enter Try.func22, Try.ntmps22
  go_wp2_with (go_at_call 5; refine (HN.out _).mono ?_)
  rintro _ w1 ⟨g, rfl, F1, hD1, hb1, hf1⟩
  have HD1 : Hid (Dev w1 F1 g (dst0 2 10) 0 nilS ∧ Below w.heap.size w w1 ∧ ∀ i, F1 i → w.heap.size ≤ i) := ⟨hD1, hb1, hf1⟩
  clear hD1 hb1 hf1 HN
  have cvA : ∀ W : World, (convert 29 29 (.slice (some ⟨W.heap.size, 0, none⟩) 2 2)).run Try.prog (W.alloc (.cells #[.int .u8 97, .int .u8 98] 5)) = .ok (.slice (some ⟨W.heap.size, 0, none⟩) 2 2) (W.alloc (.cells #[.int .u8 97, .int .u8 98] 5 (2, 3))) := fun W => Lib.run_convert_bytes_const (P := Try.prog) W 29 5 #[.int .u8 97, .int .u8 98] 2 2 Try.underlying29 Try.underlying5
  have cvB : ∀ W : World, (convert 29 29 (.slice (some ⟨W.heap.size, 0, none⟩) 5 5)).run Try.prog (W.alloc (.cells #[.int .u8 104, .int .u8 101, .int .u8 108, .int .u8 108, .int .u8 111] 5)) = .ok (.slice (some ⟨W.heap.size, 0, none⟩) 5 5) (W.alloc (.cells #[.int .u8 104, .int .u8 101, .int .u8 108, .int .u8 108, .int .u8 111] 5 (5, 6))) := fun W => Lib.run_convert_bytes_const (P := Try.prog) W 29 5 #[.int .u8 104, .int .u8 101, .int .u8 108, .int .u8 108, .int .u8 111] 5 5 Try.underlying29 Try.underlying5
  have bd := built33_1
  obtain ⟨A1, eA1⟩ : ∃ A, A = (bv k1).toArray := ⟨_, rfl⟩
  rw [← eA1] at bd
  have HEA : Hid (A1 = (bv k1).toArray) := eA1
  clear eA1
  have HP : Hid (Calls Try.prog 11 #[.pointer (some ⟨g, 0, none⟩), .agg A1, .slice (some ⟨w1.heap.size, 0, none⟩) 2 2] (w1.alloc (.cells #[.int .u8 97, .int .u8 98] 5 (2, 3))) fun e w' => e = .returned (.int .i64 0) ∧ ∃ F', Dev w' F' g (notd (setl (layS (dst0 2 10) k1 [97, 98]) []) 2 0) 6 nilS ∧ Turn F1 (w1.alloc (.cells #[.int .u8 97, .int .u8 98] 5 (2, 3))) w' ∧ (∀ i, F' i → F1 i ∨ (w1.alloc (.cells #[.int .u8 97, .int .u8 98] 5 (2, 3))).heap.size ≤ i)) := by
    have bA : Below w1.heap.size w1 (w1.alloc (.cells #[.int .u8 97, .int .u8 98] 5 (2, 3))) := (Below.refl _ _).alloc (Nat.le_refl _) _
    rw [HEA.out]
    exact dev_put (x := [97, 98]) (HD1.out.1.keep bA) (by omega) isH_k1 (vb_rng (s := [97, 98]) (rng_newf w1 (bv [97, 98]) 5 (2, 3)) (by decide) (by decide)) (by decide) rfl
  go_wp2_with (first
    | refine wpList_bdL (by kernel_rfl) _ _ (by rfl) _ bd ?_
    | (go_at_call 11; refine HP.out.mono ?_))
  rintro _ w2 ⟨rfl, F2, hD2, ht2, hf2⟩
  have hs12 : w1.heap.size ≤ (w1.alloc (.cells #[.int .u8 97, .int .u8 98] 5 (2, 3))).heap.size := by simp
  have HD2 : Hid (Dev w2 F2 g (notd (setl (layS (dst0 2 10) k1 [97, 98]) []) 2 0) 6 nilS ∧ Below w.heap.size w w2 ∧ ∀ i, F2 i → w.heap.size ≤ i) := by
    have l1 := HD1.out.2.1.size
    refine ⟨hD2, ?_, fun i q => ?_⟩
    · exact (HD1.out.2.1.alloc l1 _).trans (ht2.below (fun i q => HD1.out.2.2 i q) (Nat.le_trans l1 hs12))
    · rcases hf2 i q with q | q
      · exact HD1.out.2.2 i q
      · exact Nat.le_trans (Nat.le_trans l1 hs12) q
  clear hD2 ht2 hf2 HP hs12 HD1
  obtain ⟨s2, es2⟩ : ∃ s, s = notd (setl (layS (dst0 2 10) k1 [97, 98]) []) 2 0 := ⟨_, rfl⟩
  rw [← es2] at HD2
  have HS2 : Hid (s2.log = [] ∧ s2.rm = 10 ∧ s2.bl k1 = some [97, 98] ∧ s2.ac.length = 1) := by
    rw [es2]
    refine ⟨rfl, rfl, ?_, rfl⟩
    show (if k1 = k1 then some [97, 98] else none) = some [97, 98]
    rw [if_pos rfl]
  clear es2
  have HA : Hid (Calls Try.prog 13 #[.pointer (some ⟨g, 0, none⟩), .slice (some ⟨w2.heap.size, 0, none⟩) 5 5] (w2.alloc (.cells #[.int .u8 104, .int .u8 101, .int .u8 108, .int .u8 108, .int .u8 111] 5 (5, 6))) fun e w' => e = .returned (.int .i64 0) ∧ ∃ F' lg, Dev w' F' g (notd (setl { s2 with log := [104, 101, 108, 108, 111] } s2.log) 6 0) (6 + 6) lg ∧ Turn F2 (w2.alloc (.cells #[.int .u8 104, .int .u8 101, .int .u8 108, .int .u8 108, .int .u8 111] 5 (5, 6))) w' ∧ (∀ i, F' i → F2 i ∨ (w2.alloc (.cells #[.int .u8 104, .int .u8 101, .int .u8 108, .int .u8 108, .int .u8 111] 5 (5, 6))).heap.size ≤ i)) := by
    have bA : Below w2.heap.size w2 (w2.alloc (.cells #[.int .u8 104, .int .u8 101, .int .u8 108, .int .u8 108, .int .u8 111] 5 (5, 6))) := (Below.refl _ _).alloc (Nat.le_refl _) _
    refine dev_append (x := [104, 101, 108, 108, 111]) (HD2.out.1.keep bA) (by omega) (vb_rng (s := [104, 101, 108, 108, 111]) (rng_newf w2 (bv [104, 101, 108, 108, 111]) 5 (5, 6)) (by decide) (by decide)) (by decide) ?_
    show (if decide ((s2.log.length : Int) + ((5 : Nat) : Int) ≤ s2.rm) = true then (0 : Int) else 6) = 0
    rw [HS2.out.1, HS2.out.2.1]
    rfl
  go_wp2_with (go_at_call 13; refine HA.out.mono ?_)
  rintro _ w3 ⟨rfl, F3, lg3, hD3, ht3, hf3⟩
  have hs23 : w2.heap.size ≤ (w2.alloc (.cells #[.int .u8 104, .int .u8 101, .int .u8 108, .int .u8 108, .int .u8 111] 5 (5, 6))).heap.size := by simp
  have HD3 : Hid (Dev w3 F3 g (notd (setl { s2 with log := [104, 101, 108, 108, 111] } s2.log) 6 0) 12 lg3 ∧ Below w.heap.size w w3 ∧ ∀ i, F3 i → w.heap.size ≤ i) := by
    have l1 := HD2.out.2.1.size
    refine ⟨hD3, ?_, fun i q => ?_⟩
    · exact (HD2.out.2.1.alloc l1 _).trans (ht3.below (fun i q => HD2.out.2.2 i q) (Nat.le_trans l1 hs23))
    · rcases hf3 i q with q | q
      · exact HD2.out.2.2 i q
      · exact Nat.le_trans (Nat.le_trans l1 hs23) q
  clear hD3 ht3 hf3 HA hs23 HD2
  obtain ⟨s3, es3⟩ : ∃ s, s = notd (setl { s2 with log := [104, 101, 108, 108, 111] } s2.log) 6 0 := ⟨_, rfl⟩
  rw [← es3] at HD3
  have HS3 : Hid (s3.log = [104, 101, 108, 108, 111] ∧ s3.bl k1 = some [97, 98] ∧ s3.ac.length = 2) := by
    rw [es3]
    refine ⟨rfl, HS2.out.2.2.1, ?_⟩
    show (s2.ac ++ [_]).length = 2
    rw [List.length_append, HS2.out.2.2.2]
    rfl
  clear es3 HS2
  have HG : Hid (Calls Try.prog 7 #[.pointer (some ⟨g, 0, none⟩), .agg A1] w3 fun e w' => ∃ b, e = .returned (.tuple #[b, .int .i64 0]) ∧ Tell F3 g (12 + 6) (notd (setl s3 s3.log) 1 0) (fun v => v = lg3) [97, 98] w3 w' b) := by
    rw [HEA.out]
    have hr : refu s3 1 k1 0 = 0 := by
      show (if (s3.bl k1).isSome = true then (0 : Int) else 81) = 0
      rw [HS3.out.2.1]
      rfl
    have := dev_get HD3.out.1 (by omega) isH_k1 hr
    rw [HS3.out.2.1] at this
    exact this
  go_wp2_with (first
    | refine wpList_bdL (by kernel_rfl) _ _ (by rfl) _ bd ?_
    | (go_at_call 7; refine HG.out.mono ?_))
  rintro _ w4 ⟨b, rfl, F4, lg4, hD4, _, ht4, hf4, ho4⟩
  have HD4 : Hid (Dev w4 F4 g (notd (setl s3 s3.log) 1 0) 18 lg4 ∧ Below w.heap.size w w4 ∧ (∀ i, F4 i → w.heap.size ≤ i) ∧ (∀ i, F4 i → b.ownBlock ≠ some i) ∧ Byt w4 b [97, 98]) := by
    have l1 := HD3.out.2.1.size
    refine ⟨hD4, HD3.out.2.1.trans (ht4.below (fun i q => HD3.out.2.2 i q) l1), fun i q => ?_, fun i q => (hf4 i q).2, own_base ho4, by decide, by decide⟩
    rcases (hf4 i q).1 with q | q
    · exact HD3.out.2.2 i q
    · exact Nat.le_trans l1 q
  obtain ⟨ba, bc, eb⟩ := own_slice ho4
  subst eb
  clear hD4 ht4 hf4 HG HD3 ho4
  obtain ⟨s4, es4⟩ : ∃ s, s = notd (setl s3 s3.log) 1 0 := ⟨_, rfl⟩
  rw [← es4] at HD4
  have HS4 : Hid (s4.log = [104, 101, 108, 108, 111] ∧ s4.ac.length = 3) := by
    rw [es4]
    refine ⟨HS3.out.1, ?_⟩
    show (s3.ac ++ [_]).length = 3
    rw [List.length_append, HS3.out.2.2]
    rfl
  clear es4 HS3
  have HR : Hid (Calls Try.prog 9 #[.pointer (some ⟨g, 0, none⟩)] w4 fun e w' => ∃ b, e = .returned (.tuple #[b, .int .i64 0]) ∧ Tell F4 g (18 + 6) (notd (setl s4 s4.log) 5 0) (fun v => v = lg4) [104, 101, 108, 108, 111] w4 w' b) := by
    have := dev_read HD4.out.1 (by omega)
    rw [HS4.out.1] at this ⊢
    exact this
  go_wp2_with (go_at_call 9; refine HR.out.mono ?_)
  rintro _ w5 ⟨l, rfl, F5, lg5, hD5, _, ht5, hf5, ho5⟩
  have HD5 : Hid (Dev w5 F5 g (notd (setl s4 s4.log) 5 0) 24 lg5 ∧ Below w.heap.size w w5 ∧ Byt w5 (.slice ba [97, 98].length bc) [97, 98] ∧ Byt w5 l [104, 101, 108, 108, 111]) :=
    ⟨hD5, HD4.out.2.1.trans (ht5.below (fun i q => HD4.out.2.2.1 i q) HD4.out.2.1.size), ⟨own_turn HD4.out.2.2.2.2.own ht5 (fun i hi q => HD4.out.2.2.2.1 i q hi), by decide, by decide⟩, own_base ho5, by decide, by decide⟩
  obtain ⟨la, lc, el⟩ := own_slice ho5
  subst el
  clear hD5 ht5 hf5 HR HD4 ho5 bd HEA cvA cvB
  have hac : (notd (setl s4 s4.log) 5 0).ac.length = 4 := by
    show (s4.ac ++ [_]).length = 4
    rw [List.length_append, HS4.out.2]
    rfl
  have HAC : Hid (Calls Try.prog 19 #[.pointer (some ⟨g, 0, none⟩)] w5 fun e w' => ∃ u, e = .returned u ∧ (∃ a c, u = .slice a 4 c) ∧ Below w5.heap.size w5 w') :=
    (dev_accs HD5.out.1 (by omega)).mono (by
      rintro e w' ⟨u, rfl, hu, hb⟩
      obtain ⟨a, c, e⟩ := own_slice hu
      exact ⟨u, rfl, ⟨a, c, by rw [e, hac]⟩, hb⟩)
  have cv1 : (convert 29 9 (.slice ba 2 bc)).run Try.prog w5 = .ok (.string { data := #[97, 98] }) w5 := HD5.out.2.2.1.conv (Below.refl _ _)
  have cv2 : (convert 29 9 (.slice la 5 lc)).run Try.prog w5 = .ok (.string { data := #[104, 101, 108, 108, 111] }) w5 := HD5.out.2.2.2.conv (Below.refl _ _)
  clear hac HS4
  go_wp2_with (go_at_call 19; refine HAC.out.mono ?_)
  rintro _ w6 ⟨u, rfl, ⟨a, c, rfl⟩, hb6⟩
  have HB6 : Hid (Below w.heap.size w w6) := HD5.out.2.1.trans (hb6.mono HD5.out.2.1.size)
  clear hb6 HAC cv1 cv2
  go_wp2_with fail
  go_ret
  exact ⟨rfl, HB6.out⟩
end Go.Proofs.Ythjcndlapelnlaa
