import Derived.Test.YtpmdjopojcgpeaaGreatDoorH14q
/-
  cairnlaw10.HstoreNames. (Written by gen_h15.py.)
-/
namespace Go.Proofs.YtpmdjopojcgpeaaGreatDoor
open Go.RowKit Go.Maps Go.ChangeMaps

theorem wpList_bdT {ops : Array Oper} {rest : List Oper} {op : Oper} {a : Act} {w : World} {Q : Exit → Act → World → Prop} (t : TypeId) (ho : op.op = .build t #[]) (hg : op.guard = none) (cells : Array Value) (hb : Tryz.prog.built t [] = some cells) (h : wpList Tryz.prog ops Q rest (a.put op.dst (.agg cells)) w) : wpList Tryz.prog ops Q (op :: rest) a w :=
  wpList_bdL (by simp [Region.wanted, hg]) t [] ho cells hb h
theorem infoU8 : (Tryz.prog.info? 5).map (fun i => (i.zero, i.size, i.bytes)) = some (some (.int .u8 0), 1, 1) := by kernel_rfl
/-- A NEW STORE that keeps 256 blobs, over a new device -/
def Nst (w0 w : World) (sb g bk : Nat) (NB : Nat) : Prop := ∃ mb mq FD FB, Sy w sb g bk 256 256 mb mq 0 0 NB [] (fun _ => none) 0 (dst0 4 100) nilS (fun i => i = sb ∨ i = mb ∨ i = mq) FD FB nilS (.map []) (fun _ => nilS) (fun _ => False) ∧ (∀ i, All (fun i => i = sb ∨ i = mb ∨ i = mq) FD FB i → w0.heap.size ≤ i) ∧ Below w0.heap.size w0 w
theorem Nst.keep {w0 w w' : World} {sb g bk NB : Nat} (h : Nst w0 w sb g bk NB) (k : Below w.heap.size w w') : Nst w0 w' sb g bk NB := by
  obtain ⟨mb, mq, FD, FB, h1, h2, h3⟩ := h
  exact ⟨mb, mq, FD, FB, h1.keep k, h2, ch h3 k⟩
theorem Nst.below {w0 w : World} {sb g bk NB : Nat} (h : Nst w0 w sb g bk NB) : Below w0.heap.size w0 w := by
  obtain ⟨mb, mq, FD, FB, h1, h2, h3⟩ := h
  exact h3
theorem Nst.gr {w0 w : World} {sb g bk NB : Nat} (h : Nst w0 w sb g bk NB) : Dg.Ground w := by
  obtain ⟨mb, mq, FD, FB, h1, h2, h3⟩ := h
  exact h1.gr
theorem nst_new {w0 w : World} {g bk : Nat} {FD FB : Nat → Prop} (h : Db2 w0 w g bk FD FB) :
    Calls Tryz.prog 10 #[.pointer (some ⟨g, 0, none⟩), .pointer (some ⟨bk, 0, none⟩), .int .i64 256] w fun e w' => ∃ sb, e = .returned (.tuple #[.pointer (some ⟨sb, 0, none⟩), .int .i64 0]) ∧ Nst w0 w' sb g bk 0 := by
  refine (hstore_new h 256 (by decide) (by decide)).mono ?_
  rintro e w' ⟨sb, rfl, mb, mq, q⟩
  exact ⟨sb, rfl, mb, mq, FD, FB, q⟩
theorem nst_accs {w0 w : World} {sb g bk NB : Nat} (h : Nst w0 w sb g bk NB) :
    Calls Tryz.prog 18 #[.pointer (some ⟨g, 0, none⟩)] w fun e w' => ∃ a c, e = .returned (.slice a 0 c) ∧ Below w.heap.size w w' := by
  obtain ⟨mb, mq, FD, FB, h1, h2, h3⟩ := h
  refine (dev_accs h1.dv (by omega)).mono ?_
  rintro e w' ⟨u, rfl, hu, hb⟩
  obtain ⟨a, c, e⟩ := own_slice hu
  exact ⟨a, c, by rw [e]; rfl, hb⟩
theorem nst_mend {w0 w : World} {sb g bk : Nat} (h : Nst w0 w sb g bk 0) :
    Calls Tryz.prog 15 #[.pointer (some ⟨sb, 0, none⟩), .slice (some ⟨w.heap.size, 0, none⟩) 1 1] (w.alloc (.cells #[.int .u8 1] 5)) fun e w' => e = .returned (.int .i64 220) ∧ Nst w0 w' sb g bk 1 := by
  obtain ⟨mb, mq, FD, FB, h1, h2, h3⟩ := h
  have bA : Below w.heap.size w (w.alloc (.cells #[.int .u8 1] 5)) := (Below.refl _ _).alloc (Nat.le_refl _) _
  obtain ⟨a, b, off, c, e, q1, q2, q3, q4⟩ := vb_rng (s := [1]) (rng_newf w (bv [1]) 5 (0, 0)) (by decide) (by decide)
  have hv : Vo FB (w.alloc (.cells #[.int .u8 1] 5)) (.slice (some ⟨w.heap.size, 0, none⟩) [1].length [1].length) [1] := by
    refine ⟨a, b, off, c, e, q1, q2, q3, q4, fun h0 => ?_⟩
    have ha := q1.at_ h0
    injection e with e1 e2 e3
    rw [ha] at e1
    injection e1 with e1
    injection e1 with e1 e4 e5
    subst e1
    exact ⟨fun q => by have := (h1.bk.lim _ q).2; omega, by simp⟩
  refine (mend_unw (h1.keep bA) (by omega) (by decide) hv).mono ?_
  rintro e w' ⟨rfl, ht, FB', hs, hf⟩
  have s0 := h3.size
  have s1 := bA.size
  refine ⟨rfl, mb, mq, FD, FB', hs, fun i q => ?_, (ch h3 bA).trans (ht.below (fun i q => h2 i (Or.inr (Or.inr q))) (Nat.le_trans s0 s1))⟩
  rcases q with q | q | q
  · exact h2 i (Or.inl q)
  · exact h2 i (Or.inr (Or.inl q))
  · rcases hf i q with q | q
    · exact h2 i (Or.inr (Or.inr q))
    · omega
set_option maxRecDepth 100000 in
set_option maxHeartbeats 25600000 in
theorem hnames_any (w : World) (hG : Dg.Ground w) :
    Calls Tryz.prog 3 #[] w fun e w' => e = .returned (.bool true) ∧ Below w.heap.size w w' := by
  have HN : Hid (NewD 4 100) := newD 4 100 rfl
  have HG : Hid (Dg.Ground w) := hG
  clear hG
  obtain ⟨i0, hi0, hz0, hz1, hz2⟩ := info_parts infoU8
  have mk : ∀ u : World, (Instr.makeSlice 29 (.int .i64 1025) (.int .i64 1025)).run Tryz.prog u = .ok (.slice (some ⟨u.heap.size, 0, none⟩) 1025 1025) (u.alloc (.cells (madeCells #[.int .u8 0] (1025 * 1)) 5)) := fun u => by
    have := run_makeSlice (P := Tryz.prog) (w := u) 29 5 i0 _ Tryz.underlying29 hi0 hz0 .i64 .i64 (1025 : Int) (1025 : Int) (by omega) (Int.le_refl _) (by rw [hz1]; decide) (by rw [hz2]; decide) (by omega)
    rw [hz1] at this
    simpa [Value.cells] using this
  generalize madeCells #[.int .u8 0] (1025 * 1) = M at mk
  clear hi0 hz0 hz1 hz2
  have hz := zvH
  have HI : Hid ((Tryz.prog.info? 38).map (·.size) = some (bv z32).length ∧ (bv z32).toArray.all (·.oneCell') = true) := ⟨iHl z32_len, bv_one _⟩
  have HBT : Hid (Tryz.prog.built 38 [] = some (bv z32).toArray) := built0
  have HND : Hid (∀ u, Calls Tryz.prog 12 #[.pointer none, .agg (bv z32).toArray] u fun e w' => e = .returned (.tuple #[nilS, .int .i64 1]) ∧ Below u.heap.size u w') := fun u => node_nil u z32
  have HFR : Hid (∀ u, Calls Tryz.prog 13 #[.pointer none, .agg (bv z32).toArray] u fun e w' => e = .returned (.tuple #[nilS, .int .i64 1]) ∧ Below u.heap.size u w') := fun u => fresh_nil u z32
  have HPN : Hid (∀ u v, Calls Tryz.prog 14 #[.pointer none, v] u fun e w' => e = .returned (.tuple #[.agg (bv z32).toArray, .int .i64 1]) ∧ Below u.heap.size u w') := fun u v => hput_nil u v
  have HPB : Hid (∀ u sb sa m sc, m ≤ 2000 → isB m = false → Calls Tryz.prog 14 #[.pointer (some ⟨sb, 0, none⟩), .slice sa m sc] u fun e w' => e = .returned (.tuple #[.agg (bv z32).toArray, .int .i64 2]) ∧ Below u.heap.size u w') := fun u sb sa m sc hm hb => hput_bad u (by omega) hb
  obtain ⟨Z, eZ⟩ : ∃ Z, Z = bv z32 := ⟨_, rfl⟩
  rw [← eZ] at hz HI HBT HND HFR HPN HPB
  clear eZ
  have HAL : Hid (∀ (u : World) (ob : Obj), Below u.heap.size u (u.alloc ob)) := fun u ob => (Below.refl _ _).alloc (Nat.le_refl _) _
  go_enter Tryz.func3, Tryz.ntmps3
  go_wp2_with (go_at_call 7; change Hid (Calls _ _ _ _ _))
  unfold Hid
  refine (HN.out _).mono ?_
  rintro _ w1 ⟨g, rfl, FD, hD1, hb1, hf1⟩
  have H1 : Hid (Dev w1 FD g (dst0 4 100) 0 nilS ∧ Below w.heap.size w w1 ∧ ∀ i, FD i → w.heap.size ≤ i) := ⟨hD1, hb1, hf1⟩
  clear hD1 hb1 hf1 HN
  go_wp2_with (go_at_call 9; change Hid (Calls _ _ _ _ _))
  unfold Hid
  refine (sec_nil _).mono ?_
  rintro _ w2 ⟨sa, sk, sc, ss, rfl, hv2, hl2, hb2⟩
  have H2 : Hid (Dg.Vw w2 sa sk 0 ss ∧ ss.length = 32 ∧ Below w1.heap.size w1 w2) := ⟨hv2, hl2, hb2⟩
  clear hv2 hl2 hb2
  go_wp2_with (go_at_call 8; change Hid (Calls _ _ _ _ _))
  unfold Hid
  refine (digest_new HG.out H1.out.1 H1.out.2.2 H1.out.2.1 H2.out.2.2 H2.out.1 H2.out.2.1).mono ?_
  rintro _ w3 ⟨bk, FB, rfl, h3⟩
  have H3 : Hid (Db2 w w3 g bk FD FB) := h3
  clear h3 H1 H2
  go_wp2_with (go_at_call 10; change Hid (Calls _ _ _ _ _))
  unfold Hid
  refine (newS_nil _ _ _ _ (Or.inl rfl)).mono ?_
  rintro _ u ⟨rfl, hu⟩
  rw [hu]
  clear hu u
  go_wp2_with (go_at_call 10; change Hid (Calls _ _ _ _ _))
  unfold Hid
  refine (newS_nil _ _ _ _ (Or.inr ⟨⟨_, rfl⟩, rfl⟩)).mono ?_
  rintro _ u ⟨rfl, hu⟩
  rw [hu]
  clear hu u
  go_wp2_with (go_at_call 10; change Hid (Calls _ _ _ _ _))
  unfold Hid
  refine (newS_bad _ _ _ _ (Or.inl (by decide))).mono ?_
  rintro _ u ⟨rfl, hu⟩
  rw [hu]
  clear hu u
  go_wp2_with (go_at_call 10; change Hid (Calls _ _ _ _ _))
  unfold Hid
  refine (newS_bad _ _ _ _ (Or.inr (by decide))).mono ?_
  rintro _ u ⟨rfl, hu⟩
  rw [hu]
  clear hu u
  go_wp2_with (go_at_call 10; change Hid (Calls _ _ _ _ _))
  unfold Hid
  refine (nst_new H3.out).mono ?_
  rintro _ w4 ⟨sb, rfl, h4⟩
  have H4 : Hid (Nst w w4 sb g bk 0) := h4
  clear h4 H3
  go_wp2_with (go_at_call 11; change Hid (Calls _ _ _ _ _))
  unfold Hid
  refine (forget_nil _ _).mono ?_
  rintro _ u ⟨⟨z, rfl⟩, hu⟩
  rw [hu]
  clear hu u
  go_wp2_with (first
    | refine wpList_bdT 38 (by rfl) (by rfl) Z.toArray HBT.out ?_
    | (go_at_call 12; change Hid (Calls _ _ _ _ _)))
  unfold Hid
  refine (HND.out _).mono ?_
  rintro _ w5 ⟨rfl, hb⟩
  have H5 : Hid (Nst w w5 sb g bk 0) := H4.out.keep hb
  clear hb H4
  go_wp2_with (first
    | refine wpList_bdT 38 (by rfl) (by rfl) Z.toArray HBT.out ?_
    | (go_at_call 13; change Hid (Calls _ _ _ _ _)))
  unfold Hid
  refine (HFR.out _).mono ?_
  rintro _ w6 ⟨rfl, hb⟩
  have H6 : Hid (Nst w w6 sb g bk 0) := H5.out.keep hb
  clear hb H5
  go_wp2_with (go_at_call 14; change Hid (Calls _ _ _ _ _))
  unfold Hid
  refine (HPN.out _ _).mono ?_
  rintro _ w7 ⟨rfl, hb⟩
  have H7 : Hid (Nst w w7 sb g bk 0) := H6.out.keep hb
  clear hb H6
  go_wp2_with (first
    | refine wpList_stN (by kernel_rfl) 38 _ _ (by rfl) Z Z HI.out.1 rfl HI.out.2 (by rfl) (by rfl) ?_
    | (go_at_call 15; change Hid (Calls _ _ _ _ _)))
  unfold Hid
  refine (mend_nil _ _).mono ?_
  rintro _ w8 ⟨rfl, hb⟩
  have H8 : Hid (Nst w w8 sb g bk 0) := H7.out.keep (ch (HAL.out _ _) hb)
  clear hb H7
  go_wp2_with (go_at_call 16; change Hid (Calls _ _ _ _ _))
  unfold Hid
  refine (quar_nil _).mono ?_
  rintro _ w9 ⟨rfl, hb⟩
  have H9 : Hid (Nst w w9 sb g bk 0) := H8.out.keep hb
  clear hb H8
  go_wp2_with (go_at_call 17; change Hid (Calls _ _ _ _ _))
  unfold Hid
  refine (cached_nil _).mono ?_
  rintro _ w10 ⟨rfl, hb⟩
  have H10 : Hid (Nst w w10 sb g bk 0) := H9.out.keep hb
  clear hb H9
  go_wp2_with (go_at_call 14; change Hid (Calls _ _ _ _ _))
  unfold Hid
  refine (HPB.out _ _ _ _ _ (by decide) (by decide)).mono ?_
  rintro _ w11 ⟨rfl, hb⟩
  have H11 : Hid (Nst w w11 sb g bk 0) := H10.out.keep hb
  clear hb H10
  go_wp2_with (first
    | refine wpList_stN (by kernel_rfl) 38 _ _ (by rfl) Z Z HI.out.1 rfl HI.out.2 (by rfl) (by rfl) ?_
    | (go_at_call 14; change Hid (Calls _ _ _ _ _)))
  unfold Hid
  refine (HPB.out _ _ _ _ _ (by decide) (by decide)).mono ?_
  rintro _ w12 ⟨rfl, hb⟩
  have H12 : Hid (Nst w w12 sb g bk 0) := H11.out.keep (ch (ch (HAL.out _ _) (HAL.out _ _)) hb)
  clear hb H11
  go_wp2_with (first
    | refine wpList_stN (by kernel_rfl) 38 _ _ (by rfl) Z Z HI.out.1 rfl HI.out.2 (by rfl) (by rfl) ?_
    | (go_at_call 15; change Hid (Calls _ _ _ _ _)))
  unfold Hid
  refine (mend_bad _ (by decide) (by decide)).mono ?_
  rintro _ w13 ⟨rfl, hb⟩
  have H13 : Hid (Nst w w13 sb g bk 0) := H12.out.keep (ch (HAL.out _ _) hb)
  clear hb H12
  go_wp2_with (go_at_call 15; change Hid (Calls _ _ _ _ _))
  unfold Hid
  refine (nst_mend H13.out).mono ?_
  rintro _ w14 ⟨rfl, hb⟩
  have H14 : Hid (Nst w w14 sb g bk 1) := hb
  clear hb H13
  go_wp2_with (go_at_call 18; change Hid (Calls _ _ _ _ _))
  unfold Hid
  refine (nst_accs H14.out).mono ?_
  rintro _ w15 ⟨a15, c15, rfl, hb⟩
  have H15 : Hid (Nst w w15 sb g bk 1) := H14.out.keep hb
  clear hb H14
  go_wp2_with (go_at_call 19; change Hid (Calls _ _ _ _ _))
  unfold Hid
  refine (hfixed_any _ H15.out.gr).mono ?_
  rintro _ w16 ⟨rfl, hb⟩
  have H16 : Hid (Below w.heap.size w w16) := ch H15.out.below hb
  clear hb H15
  go_wp2_with fail
  go_ret
  exact ⟨rfl, H16.out⟩
end Go.Proofs.YtpmdjopojcgpeaaGreatDoor
