import Derived.Test.YtepeolbbplodfaaGreatDoorMaq
/-
  mayBe.
-/
namespace Go.Proofs.YtepeolbbplodfaaGreatDoor
open Go.RowKit

set_option maxRecDepth 100000 in
set_option maxHeartbeats 1600000 in
theorem mayN_any {w : World} {n : Nd} {u : Nv} (h : Nin w n u) (hD : Nck n) : Calls Tryz.prog 127 #[.agg (nc n u).toArray] w fun e w' => e = .returned (.bool (mayN KD n)) ∧ Below w.heap.size w w' := by
  have HI : Hid (mayN KD n = if n.k = 1 then ends n && (decide (IsP n.path) && (!n.full && noKids n))
    else if n.k = 2 then leads KD n && (decide (IsP n.path) && (!n.full && noKids n))
    else if n.k = 3 then decide (n.path.length = 0) && (isNo n.next && isFd KD n)
    else false) := rfl
  have B1 : Below w.heap.size w (w.alloc (.cells (nc n u).toArray 110)) := below_alloc _ _
  have hn := h.W
  have nb := nb_new hn w u
  have ck := nb.k
  have KE := ends_any (h.keep B1)
  have KL := leads_any (h.keep B1) hD
  have HX : Hid (Nin w n u ∧ Nck n ∧ Nb (w.alloc (.cells (nc n u).toArray 110)) w.heap.size n u) := ⟨h, hD, nb⟩
  have hnb : ∀ {w' : World}, Below (w.alloc (.cells (nc n u).toArray 110)).heap.size (w.alloc (.cells (nc n u).toArray 110)) w' → Nb w' w.heap.size n u := fun b => HX.out.2.2.keep b
  have HP : Hid (∀ {w' : World}, Below (w.alloc (.cells (nc n u).toArray 110)).heap.size (w.alloc (.cells (nc n u).toArray 110)) w' → Calls Tryz.prog 139 #[u.p] w' fun e w'' => e = .returned (.bool (decide (IsP n.path))) ∧ Below w'.heap.size w' w'') := fun b => nisPath_any (Rel.keep HX.out.1.p (ch B1 b))
  have HN : Hid (∀ {w' : World}, Below (w.alloc (.cells (nc n u).toArray 110)).heap.size (w.alloc (.cells (nc n u).toArray 110)) w' → Calls Tryz.prog 140 #[.agg (nc n u).toArray] w' fun e w'' => e = .returned (.bool (noKids n)) ∧ Below w'.heap.size w' w'') := fun b => hasNoKids_any (HX.out.1.keep (ch B1 b))
  have HO : Hid (∀ {w' : World}, Below (w.alloc (.cells (nc n u).toArray 110)).heap.size (w.alloc (.cells (nc n u).toArray 110)) w' → Calls Tryz.prog 141 #[.agg (rcs n.next u.x).toArray] w' fun e w'' => e = .returned (.bool (isNo n.next)) ∧ Below w'.heap.size w' w'') := fun b => isNone_any HX.out.1.W.next (Rel.keep HX.out.1.x (ch B1 b))
  have HF : Hid (∀ {w' : World}, Below (w.alloc (.cells (nc n u).toArray 110)).heap.size (w.alloc (.cells (nc n u).toArray 110)) w' → Calls Tryz.prog 142 #[.agg (nc n u).toArray] w' fun e w'' => e = .returned (.bool (isFd KD n)) ∧ Below w'.heap.size w' w'') := fun b => isFilled_any (HX.out.1.keep (ch B1 b)) HX.out.2.1
  have HH : Hid (∀ {w' : World}, Below (w.alloc (.cells (nc n u).toArray 110)).heap.size (w.alloc (.cells (nc n u).toArray 110)) w' → Nb w' w.heap.size n u) := hnb
  obtain ⟨a, b, off, c, ep0, -, -, -, hl⟩ := h.p
  have EP : Hid (u.p = .slice a n.path.length c) := ep0
  have hh := hn.next.1
  clear hnb h hD ep0
  obtain ⟨e1, q1⟩ : ∃ e, e = ends n := ⟨_, rfl⟩
  obtain ⟨e2, q2⟩ : ∃ e, e = leads KD n := ⟨_, rfl⟩
  obtain ⟨p, q3⟩ : ∃ e, e = decide (IsP n.path) := ⟨_, rfl⟩
  obtain ⟨f, q4⟩ : ∃ e, e = n.full := ⟨_, rfl⟩
  obtain ⟨nk, q5⟩ : ∃ e, e = noKids n := ⟨_, rfl⟩
  obtain ⟨o, q6⟩ : ∃ e, e = isNo n.next := ⟨_, rfl⟩
  obtain ⟨d, q7⟩ : ∃ e, e = isFd KD n := ⟨_, rfl⟩
  rw [← q1] at KE
  rw [← q2] at KL
  rw [← q3] at HP
  rw [← q5] at HN
  rw [← q6] at HO
  rw [← q7] at HF
  have HQ : Hid (e1 = ends n ∧ e2 = leads KD n ∧ p = decide (IsP n.path) ∧ f = n.full ∧ nk = noKids n ∧ o = isNo n.next ∧ d = isFd KD n) := ⟨q1, q2, q3, q4, q5, q6, q7⟩
  clear q1 q2 q3 q4 q5 q6 q7
  by_cases k1 : n.k = 1
  · rw [k1] at ck
    have HK : Hid (n.k = 1) := k1
    clear k1 KL
    cases e1 with
    | false =>
      go_enter Tryz.func127, Tryz.ntmps127
      go_wp2_with (first | refine wpList_ld29 (by kernel_rfl) _ (by rfl) _ _ _ hn nb (by rfl) ?_ | (go_at_call 138; refine KE.mono ?_; rintro e w1 ⟨rfl, hb1⟩; have HB1 : Hid (Below (w.alloc (.cells (nc n u).toArray 110)).heap.size (w.alloc (.cells (nc n u).toArray 110)) w1) := hb1; have cp := (HH.out hb1).p; have KP := HP.out hb1; clear hb1))
      go_ret
      rw [HI.out, if_pos HK.out, ← HQ.out.1]
      exact ⟨rfl, ch B1 HB1.out⟩
    | true =>
      cases p with
      | false =>
        go_enter Tryz.func127, Tryz.ntmps127
        go_wp2_with (first | refine wpList_ld29 (by kernel_rfl) _ (by rfl) _ _ _ hn nb (by rfl) ?_ | (go_at_call 138; refine KE.mono ?_; rintro e w1 ⟨rfl, hb1⟩; have HB1 : Hid (Below (w.alloc (.cells (nc n u).toArray 110)).heap.size (w.alloc (.cells (nc n u).toArray 110)) w1) := hb1; have cp := (HH.out hb1).p; have KP := HP.out hb1; clear hb1) | (go_at_call 139; refine KP.mono ?_; rintro e w2 ⟨rfl, hb2⟩; have HB2 : Hid (Below (w.alloc (.cells (nc n u).toArray 110)).heap.size (w.alloc (.cells (nc n u).toArray 110)) w2) := ch HB1.out hb2; have cf := (HH.out HB2.out).f; have nb2 := HH.out HB2.out; have KN := HN.out HB2.out; rw [← HQ.out.2.2.2.1] at cf; clear hb2))
        go_ret
        rw [HI.out, if_pos HK.out, ← HQ.out.1, ← HQ.out.2.2.1]
        exact ⟨rfl, ch B1 HB2.out⟩
      | true =>
        cases f with
        | true =>
          go_enter Tryz.func127, Tryz.ntmps127
          go_wp2_with (first | refine wpList_ld29 (by kernel_rfl) _ (by rfl) _ _ _ hn nb (by rfl) ?_ | (go_at_call 138; refine KE.mono ?_; rintro e w1 ⟨rfl, hb1⟩; have HB1 : Hid (Below (w.alloc (.cells (nc n u).toArray 110)).heap.size (w.alloc (.cells (nc n u).toArray 110)) w1) := hb1; have cp := (HH.out hb1).p; have KP := HP.out hb1; clear hb1) | (go_at_call 139; refine KP.mono ?_; rintro e w2 ⟨rfl, hb2⟩; have HB2 : Hid (Below (w.alloc (.cells (nc n u).toArray 110)).heap.size (w.alloc (.cells (nc n u).toArray 110)) w2) := ch HB1.out hb2; have cf := (HH.out HB2.out).f; have nb2 := HH.out HB2.out; have KN := HN.out HB2.out; rw [← HQ.out.2.2.2.1] at cf; clear hb2))
          go_ret
          rw [HI.out, if_pos HK.out, ← HQ.out.1, ← HQ.out.2.2.1, ← HQ.out.2.2.2.1]
          exact ⟨rfl, ch B1 HB2.out⟩
        | false =>
          go_enter Tryz.func127, Tryz.ntmps127
          go_wp2_with (first | refine wpList_ld29 (by kernel_rfl) _ (by rfl) _ _ _ hn nb2 (by rfl) ?_ | refine wpList_ld29 (by kernel_rfl) _ (by rfl) _ _ _ hn nb (by rfl) ?_ | (go_at_call 138; refine KE.mono ?_; rintro e w1 ⟨rfl, hb1⟩; have HB1 : Hid (Below (w.alloc (.cells (nc n u).toArray 110)).heap.size (w.alloc (.cells (nc n u).toArray 110)) w1) := hb1; have cp := (HH.out hb1).p; have KP := HP.out hb1; clear hb1) | (go_at_call 139; refine KP.mono ?_; rintro e w2 ⟨rfl, hb2⟩; have HB2 : Hid (Below (w.alloc (.cells (nc n u).toArray 110)).heap.size (w.alloc (.cells (nc n u).toArray 110)) w2) := ch HB1.out hb2; have cf := (HH.out HB2.out).f; have nb2 := HH.out HB2.out; have KN := HN.out HB2.out; rw [← HQ.out.2.2.2.1] at cf; clear hb2) | (go_at_call 140; refine KN.mono ?_; rintro e w3 ⟨rfl, hb3⟩; have HB3 : Hid (Below (w.alloc (.cells (nc n u).toArray 110)).heap.size (w.alloc (.cells (nc n u).toArray 110)) w3) := ch HB2.out hb3; clear hb3))
          go_ret
          rw [HI.out, if_pos HK.out, ← HQ.out.1, ← HQ.out.2.2.1, ← HQ.out.2.2.2.1, ← HQ.out.2.2.2.2.1]
          exact ⟨rfl, ch B1 HB3.out⟩
  · have j1 : (n.k == 1) = false := by simpa using k1
    by_cases k2 : n.k = 2
    · rw [k2] at ck
      have HK : Hid (n.k = 2 ∧ ¬ n.k = 1) := ⟨k2, k1⟩
      clear k1 k2 j1 KE
      cases e2 with
      | false =>
        go_enter Tryz.func127, Tryz.ntmps127
        go_wp2_with (first | refine wpList_ld29 (by kernel_rfl) _ (by rfl) _ _ _ hn nb (by rfl) ?_ | (go_at_call 137; refine KL.mono ?_; rintro e w1 ⟨rfl, hb1⟩; have HB1 : Hid (Below (w.alloc (.cells (nc n u).toArray 110)).heap.size (w.alloc (.cells (nc n u).toArray 110)) w1) := hb1; have cp := (HH.out hb1).p; have KP := HP.out hb1; clear hb1))
        go_ret
        rw [HI.out, if_neg HK.out.2, if_pos HK.out.1, ← HQ.out.2.1]
        exact ⟨rfl, ch B1 HB1.out⟩
      | true =>
        cases p with
        | false =>
          go_enter Tryz.func127, Tryz.ntmps127
          go_wp2_with (first | refine wpList_ld29 (by kernel_rfl) _ (by rfl) _ _ _ hn nb (by rfl) ?_ | (go_at_call 137; refine KL.mono ?_; rintro e w1 ⟨rfl, hb1⟩; have HB1 : Hid (Below (w.alloc (.cells (nc n u).toArray 110)).heap.size (w.alloc (.cells (nc n u).toArray 110)) w1) := hb1; have cp := (HH.out hb1).p; have KP := HP.out hb1; clear hb1) | (go_at_call 139; refine KP.mono ?_; rintro e w2 ⟨rfl, hb2⟩; have HB2 : Hid (Below (w.alloc (.cells (nc n u).toArray 110)).heap.size (w.alloc (.cells (nc n u).toArray 110)) w2) := ch HB1.out hb2; have cf := (HH.out HB2.out).f; have nb2 := HH.out HB2.out; have KN := HN.out HB2.out; rw [← HQ.out.2.2.2.1] at cf; clear hb2))
          go_ret
          rw [HI.out, if_neg HK.out.2, if_pos HK.out.1, ← HQ.out.2.1, ← HQ.out.2.2.1]
          exact ⟨rfl, ch B1 HB2.out⟩
        | true =>
          cases f with
          | true =>
            go_enter Tryz.func127, Tryz.ntmps127
            go_wp2_with (first | refine wpList_ld29 (by kernel_rfl) _ (by rfl) _ _ _ hn nb (by rfl) ?_ | (go_at_call 137; refine KL.mono ?_; rintro e w1 ⟨rfl, hb1⟩; have HB1 : Hid (Below (w.alloc (.cells (nc n u).toArray 110)).heap.size (w.alloc (.cells (nc n u).toArray 110)) w1) := hb1; have cp := (HH.out hb1).p; have KP := HP.out hb1; clear hb1) | (go_at_call 139; refine KP.mono ?_; rintro e w2 ⟨rfl, hb2⟩; have HB2 : Hid (Below (w.alloc (.cells (nc n u).toArray 110)).heap.size (w.alloc (.cells (nc n u).toArray 110)) w2) := ch HB1.out hb2; have cf := (HH.out HB2.out).f; have nb2 := HH.out HB2.out; have KN := HN.out HB2.out; rw [← HQ.out.2.2.2.1] at cf; clear hb2))
            go_ret
            rw [HI.out, if_neg HK.out.2, if_pos HK.out.1, ← HQ.out.2.1, ← HQ.out.2.2.1, ← HQ.out.2.2.2.1]
            exact ⟨rfl, ch B1 HB2.out⟩
          | false =>
            go_enter Tryz.func127, Tryz.ntmps127
            go_wp2_with (first | refine wpList_ld29 (by kernel_rfl) _ (by rfl) _ _ _ hn nb2 (by rfl) ?_ | refine wpList_ld29 (by kernel_rfl) _ (by rfl) _ _ _ hn nb (by rfl) ?_ | (go_at_call 137; refine KL.mono ?_; rintro e w1 ⟨rfl, hb1⟩; have HB1 : Hid (Below (w.alloc (.cells (nc n u).toArray 110)).heap.size (w.alloc (.cells (nc n u).toArray 110)) w1) := hb1; have cp := (HH.out hb1).p; have KP := HP.out hb1; clear hb1) | (go_at_call 139; refine KP.mono ?_; rintro e w2 ⟨rfl, hb2⟩; have HB2 : Hid (Below (w.alloc (.cells (nc n u).toArray 110)).heap.size (w.alloc (.cells (nc n u).toArray 110)) w2) := ch HB1.out hb2; have cf := (HH.out HB2.out).f; have nb2 := HH.out HB2.out; have KN := HN.out HB2.out; rw [← HQ.out.2.2.2.1] at cf; clear hb2) | (go_at_call 140; refine KN.mono ?_; rintro e w3 ⟨rfl, hb3⟩; have HB3 : Hid (Below (w.alloc (.cells (nc n u).toArray 110)).heap.size (w.alloc (.cells (nc n u).toArray 110)) w3) := ch HB2.out hb3; clear hb3))
            go_ret
            rw [HI.out, if_neg HK.out.2, if_pos HK.out.1, ← HQ.out.2.1, ← HQ.out.2.2.1, ← HQ.out.2.2.2.1, ← HQ.out.2.2.2.2.1]
            exact ⟨rfl, ch B1 HB3.out⟩
    · have j2 : (n.k == 2) = false := by simpa using k2
      clear KE KL
      by_cases k3 : n.k = 3
      · rw [k3] at ck
        have HK : Hid (n.k = 3 ∧ ¬ n.k = 2 ∧ ¬ n.k = 1) := ⟨k3, k2, k1⟩
        clear k1 k2 k3 j1 j2
        have cp := nb.p
        have cx := nb.x
        rw [EP.out] at cp
        have KO := HO.out (Below.refl _ _)
        obtain ⟨m, em⟩ : ∃ m, m = n.path.length := ⟨_, rfl⟩
        rw [← em] at cp hl
        have HM : Hid (m = n.path.length) := em
        clear em EP
        by_cases m0 : m = 0
        · subst m0
          cases o with
          | false =>
            go_enter Tryz.func127, Tryz.ntmps127
            go_wp2_with (first | refine wpList_ld26 (by kernel_rfl) _ (by rfl) _ _ _ _ hh cx (by rfl) ?_ | (go_at_call 141; refine KO.mono ?_; rintro e w1 ⟨rfl, hb1⟩; have HB1 : Hid (Below (w.alloc (.cells (nc n u).toArray 110)).heap.size (w.alloc (.cells (nc n u).toArray 110)) w1) := hb1; have nb1 := HH.out hb1; have KF := HF.out hb1; clear hb1))
            go_ret
            rw [HI.out, if_neg HK.out.2.2, if_neg HK.out.2.1, if_pos HK.out.1, ← HM.out, ← HQ.out.2.2.2.2.2.1]
            exact ⟨rfl, ch B1 HB1.out⟩
          | true =>
            go_enter Tryz.func127, Tryz.ntmps127
            go_wp2_with (first | refine wpList_ld26 (by kernel_rfl) _ (by rfl) _ _ _ _ hh cx (by rfl) ?_ | (go_at_call 141; refine KO.mono ?_; rintro e w1 ⟨rfl, hb1⟩; have HB1 : Hid (Below (w.alloc (.cells (nc n u).toArray 110)).heap.size (w.alloc (.cells (nc n u).toArray 110)) w1) := hb1; have nb1 := HH.out hb1; have KF := HF.out hb1; clear hb1) | refine wpList_ld29 (by kernel_rfl) _ (by rfl) _ _ _ hn nb1 (by rfl) ?_ | (go_at_call 142; refine KF.mono ?_; rintro e w2 ⟨rfl, hb2⟩; have HB2 : Hid (Below (w.alloc (.cells (nc n u).toArray 110)).heap.size (w.alloc (.cells (nc n u).toArray 110)) w2) := ch HB1.out hb2; clear hb2))
            go_ret
            rw [HI.out, if_neg HK.out.2.2, if_neg HK.out.2.1, if_pos HK.out.1, ← HM.out, ← HQ.out.2.2.2.2.2.1, ← HQ.out.2.2.2.2.2.2]
            exact ⟨rfl, ch B1 HB2.out⟩
        · have j0 : ((m : Int) == 0) = false := by simp; omega
          have j0b : ¬ (m : Int) = 0 := by omega
          go_enter Tryz.func127, Tryz.ntmps127
          go_wp2_with fail
          go_ret
          rw [HI.out, if_neg HK.out.2.2, if_neg HK.out.2.1, if_pos HK.out.1, ← HM.out, decide_eq_false m0]
          exact ⟨rfl, B1⟩
      · have j3 : (n.k == 3) = false := by simpa using k3
        go_enter Tryz.func127, Tryz.ntmps127
        go_wp2_with fail
        go_ret
        rw [HI.out, if_neg k1, if_neg k2, if_neg k3]
        exact ⟨rfl, B1⟩
end Go.Proofs.YtepeolbbplodfaaGreatDoor

/-
  cairnref07: header, str, list, value, path.
-/
namespace Go.Proofs.YtepeolbbplodfaaGreatDoor
open Go.RowKit

set_option maxRecDepth 100000 in
set_option maxHeartbeats 1600000 in
theorem header_any (w : World) (base n : Nat) (hn : n ≤ 1099511627776) (hb : base ≤ 192) :
    Calls Tryz.prog 106 #[.int .i64 base, .int .i64 n] w fun e w' => ∃ v, e = .returned v ∧ w'.ownsRow w.heap.size 5 1 v (hdr base n).length (bv (hdr base n)) ∧ Below w.heap.size w w' ∧ v ≠ .slice none 0 0 := by
  by_cases h : n < 56
  · have eh : hdr base n = [base + n] := by unfold hdr; rw [if_pos h]
    rw [eh]
    have i1 : (n : Int) < 56 := by omega
    have e1 : ((base : Int) + n) % 256 = (base : Int) + n := by omega
    have own0 := World.ownsRow_lit (base := w.heap.size) (e := 5) (size := 1) w #[.int .u8 ((base : Int) + n)] 1 (Nat.le_refl _) (by decide) rfl
    have HO : Hid ((w.alloc (.cells #[.int .u8 ((base : Int) + n)] 5)).ownsRow w.heap.size 5 1 (.slice (some ⟨w.heap.size, 0, none⟩) 1 1) 1 [.int .u8 ((base : Int) + n)]) := own0
    clear own0
    go_enter Tryz.func106, Tryz.ntmps106
    go_wp2_with fail
    go_ret
    refine ⟨_, rfl, ?_, below_alloc _ _, by simp⟩
    have e2 : bv [base + n] = [.int .u8 ((base : Int) + n)] := by simp [bv]
    rw [e2]
    exact HO.out
  · have eh : hdr base n = (base + 55 + (digs n).length) :: digs n := by unfold hdr; rw [if_neg h]
    have i0 : ¬ (n : Int) < 56 := by omega
    have HL : Hid ((digs n).length ≤ 6) := digs_len_le (by omega)
    have HE : Hid (hdr base n = (base + 55 + (digs n).length) :: digs n) := eh
    clear eh
    go_enter Tryz.func106, Tryz.ntmps106
    go_wp2_with fail
    go_loopg [5, 6] n (fun gg v u wr => ∃ (m : Nat) (t : List Nat), gg = m ∧ m ≤ n ∧ u = .int .i64 m ∧ digs n = digs m ++ t ∧ wr.ownsRow w.heap.size 5 1 v t.length (bv t) ∧ Below w.heap.size w wr ∧ (∀ x ∈ t, x < 256))
    case atStart => exact ⟨n, [], rfl, Nat.le_refl _, rfl, by simp, ⟨rfl, Or.inl ⟨rfl, rfl⟩⟩, Below.refl _ _, by simp⟩
    case round =>
      obtain ⟨m, t, rfl, hm, rfl, hd, ho, hb, hok⟩ := hrel
      have ht : t.length ≤ 6 := by
        have := HL.out
        rw [hd, List.length_append] at this
        omega
      obtain ⟨av, cv, ev⟩ := own_slice ho
      subst ev
      have vbt := vb_of_own ho rfl hok (by omega)
      obtain ⟨a2, b2, off2, c2, e2, hv, -, hnil, -⟩ := vbt
      injection e2 with z1 _ z3
      subst z1
      subst z3
      by_cases h0 : 0 < gk
      · have i1 : (0 : Int) < (gk : Int) := by omega
        have own0 := World.ownsRow_lit (base := wr.heap.size) (e := 5) (size := 1) wr #[.int .u8 ((gk : Int) % 256)] 1 (Nat.le_refl _) (by decide) rfl
        have HO : Hid ((wr.alloc (.cells #[.int .u8 ((gk : Int) % 256)] 5)).ownsRow wr.heap.size 5 1 (.slice (some ⟨wr.heap.size, 0, none⟩) 1 1) 1 [.int .u8 ((gk : Int) % 256)] ∧ Below w.heap.size w wr ∧ digs n = digs gk ++ t ∧ ∀ x ∈ t, x < 256) := ⟨own0, hb, hd, hok⟩
        have HV : Hid (View (wr.alloc (.cells #[.int .u8 ((gk : Int) % 256)] 5)) av b2 off2 t.length (fun i => ((gd t i : Nat) : Int)) ∧ (av = none → cv = 0)) := ⟨hv.below (below_alloc _ _), hnil⟩
        have q1 : (gk : Int) % 256 % 256 = (gk : Int) % 256 := by omega
        have q2 : (gk : Int).tmod 256 = (gk : Int) % 256 := Int.tmod_eq_emod_of_nonneg (by omega)
        have q3 : (gk : Int).tdiv 256 = (gk : Int) / 256 := Int.tdiv_eq_ediv_of_nonneg (by omega)
        clear own0 hv hnil ho hb hd hok
        go_wp2_with (refine wpList_append_bytes (by rfl) (.tmp 22) (.tmp 23) (by rfl) wr.heap.size _ 1 _ (by rfl) HO.out.1 av b2 off2 t.length cv _ (by rfl) HV.out.1 HV.out.2 (by omega) (by simp) ?_)
        intro v1 w1 own1 gr1 nn1
        have b1 : Below w.heap.size w w1 := (ch HO.out.2.1 (below_alloc _ _)).trans (grown_below gr1 HO.out.1 HO.out.2.1.size (by have := HO.out.2.1.size; simp; omega))
        have own2 : w1.ownsRow w.heap.size 5 1 v1 ((gk % 256) :: t).length (bv ((gk % 256) :: t)) := by
          have e1 : (Value.int IntKind.u8 ((gk : Int) % 256) :: vals (fun i => ((gd t i : Nat) : Int)) t.length) = bv ((gk % 256) :: t) := by
            rw [vals_bv]
            simp [bv]
          have := own_rebase own1 (C := w.heap.size) (fun g hg => by have := (own1.lt g hg).1; have := HO.out.2.1.size; omega)
          rw [show ((gk % 256) :: t).length = 1 + t.length by simp; omega, ← e1]
          simpa using this
        have HZ : Hid (w1.ownsRow w.heap.size 5 1 v1 ((gk % 256) :: t).length (bv ((gk % 256) :: t)) ∧ Below w.heap.size w w1) := ⟨own2, b1⟩
        clear own1 own2 gr1 nn1 b1
        go_wp2_with fail
        go_roundg (gk / 256)
        case measure => omega
        case rel =>
          refine ⟨gk / 256, (gk % 256) :: t, rfl, by omega, by go_num, ?_, HZ.out.1, HZ.out.2, fun x hx => ?_⟩
          · rw [HO.out.2.2.1, digs_pos h0]; simp
          · rcases List.mem_cons.1 hx with rfl | hx
            · omega
            · exact HO.out.2.2.2 x hx
      · have e0 : gk = 0 := by omega
        subst e0
        rw [digs_zero, List.nil_append] at hd
        have e1 : ((base : Int) + 55 + t.length) % 256 = (base : Int) + 55 + t.length := by omega
        have own0 := World.ownsRow_lit (base := wr.heap.size) (e := 5) (size := 1) wr #[.int .u8 ((base : Int) + 55 + t.length)] 1 (Nat.le_refl _) (by decide) rfl
        have HO : Hid ((wr.alloc (.cells #[.int .u8 ((base : Int) + 55 + t.length)] 5)).ownsRow wr.heap.size 5 1 (.slice (some ⟨wr.heap.size, 0, none⟩) 1 1) 1 [.int .u8 ((base : Int) + 55 + t.length)] ∧ Below w.heap.size w wr) := ⟨own0, hb⟩
        have HV : Hid (View (wr.alloc (.cells #[.int .u8 ((base : Int) + 55 + t.length)] 5)) av b2 off2 t.length (fun i => ((gd t i : Nat) : Int)) ∧ (av = none → cv = 0) ∧ digs n = t) := ⟨hv.below (below_alloc _ _), hnil, hd⟩
        clear own0 hv hnil ho hb hd hok
        go_wp2_with (refine wpList_append_bytes (by rfl) (.tmp 31) (.tmp 32) (by rfl) wr.heap.size _ 1 _ (by rfl) HO.out.1 av b2 off2 t.length cv _ (by rfl) HV.out.1 HV.out.2.1 (by omega) (by simp) ?_)
        intro v1 w2 own1 gr1 nn1
        have b1 : Below w.heap.size w w2 := (ch HO.out.2 (below_alloc _ _)).trans (grown_below gr1 HO.out.1 HO.out.2.size (by have := HO.out.2.size; simp; omega))
        have own2 : w2.ownsRow w.heap.size 5 1 v1 (hdr base n).length (bv (hdr base n)) := by
          have e3 : (Value.int IntKind.u8 ((base : Int) + 55 + t.length) :: vals (fun i => ((gd t i : Nat) : Int)) t.length) = bv ((base + 55 + t.length) :: t) := by
            rw [vals_bv]
            simp [bv]
          have := own_rebase own1 (C := w.heap.size) (fun g hg => by have := (own1.lt g hg).1; have := HO.out.2.size; omega)
          rw [HE.out, HV.out.2.2, show ((base + 55 + t.length) :: t).length = 1 + t.length by simp; omega, ← e3]
          simpa using this
        have HZ : Hid (w2.ownsRow w.heap.size 5 1 v1 (hdr base n).length (bv (hdr base n)) ∧ Below w.heap.size w w2 ∧ v1 ≠ .slice none 0 0) := ⟨own2, b1, nn1⟩
        clear own1 own2 gr1 nn1 b1
        go_wp2_with fail
        go_ret
        exact ⟨_, rfl, HZ.out⟩
end Go.Proofs.YtepeolbbplodfaaGreatDoor

/-
  cairnref07: str, list.
-/
namespace Go.Proofs.YtepeolbbplodfaaGreatDoor
open Go.RowKit

/-- a string's form -/
def sF (b : List Nat) : List Nat := form (.mk false b [])
theorem sF_alone {b : List Nat} (h : alone b = true) : sF b = b := by unfold sF; rw [form_mk]; simp [h]
theorem sF_head {b : List Nat} (h : ¬ alone b = true) : sF b = hdr 128 b.length ++ b := by unfold sF; rw [form_mk]; simp [h]
theorem hdr_len16 {base n : Nat} (hn : n ≤ 1099511627776) : (hdr base n).length ≤ 16 := by
  have := digs_len_le (n := n) (k := 6) (by omega)
  unfold hdr
  split <;> simp <;> omega
/-- the header and the bytes behind it -/
theorem glue_own {w0 w2 : World} {B base n : Nat} {v2 : Value} {b : List Nat} {hl : Nat} (e1 : hl = (hdr base n).length) (e2 : b.length = n) (h : w2.ownsRow B 5 1 v2 (hl + n) (bv (hdr base n) ++ vals (fun i => ((gd b i : Nat) : Int)) n)) (hB : w0.heap.size ≤ B) : w2.ownsRow w0.heap.size 5 1 v2 (hdr base n ++ b).length (bv (hdr base n ++ b)) := by
  have := own_rebase h (C := w0.heap.size) (fun g hg => by have := (h.lt g hg).1; omega)
  subst e2
  rw [List.length_append, ← e1, bv_app, ← vals_bv b]
  exact this
set_option maxRecDepth 100000 in
set_option maxHeartbeats 1600000 in
theorem rlist_any {w : World} {v : Value} {b : List Nat} (h : Vb w v b) (hlen : b.length ≤ 1099511627776) :
    Calls Tryz.prog 78 #[v] w fun e w' => ∃ v, e = .returned v ∧ w'.ownsRow w.heap.size 5 1 v (hdr 192 b.length ++ b).length (bv (hdr 192 b.length ++ b)) ∧ Below w.heap.size w w' := by
  obtain ⟨a, b2, off, c, rfl, hv, -, hnil, -⟩ := h
  obtain ⟨nb, enb⟩ : ∃ nb, nb = b.length := ⟨_, rfl⟩
  have HV : Hid (∀ w', Below w.heap.size w w' → View w' a b2 off nb (fun i => ((gd b i : Nat) : Int))) := fun w' k => by rw [enb]; exact hv.below k
  have HN : Hid (nb = b.length ∧ (a = none → c = 0)) := ⟨enb, hnil⟩
  have K1 := header_any w 192 nb (by omega) (by omega)
  obtain ⟨hl, ehl⟩ : ∃ hl, hl = (hdr 192 nb).length := ⟨_, rfl⟩
  have hl16 : hl ≤ 16 := by rw [ehl]; exact hdr_len16 (by omega)
  rw [← ehl] at K1
  have HL : Hid (hl = (hdr 192 nb).length) := ehl
  rw [← enb]
  have nbl : nb ≤ 1099511627776 := by omega
  clear hv hnil enb hlen ehl
  go_enter Tryz.func78, Tryz.ntmps78
  go_wp2_with (first
    | (go_at_call 106; refine K1.mono ?_; rintro e w1 ⟨v1, rfl, ho1, b1, hnn1⟩; have V1 := HV.out w1 b1; have HB : Hid (Below w.heap.size w w1) := b1; have s1 := b1.size; clear b1 K1)
    | (refine wpList_append_bytes (by rfl) (.tmp 5) (.tmp 6) (by rfl) w.heap.size v1 hl _ (by rfl) ho1 a b2 off nb c _ (by rfl) V1 HN.out.2 (by omega) s1 ?_; intro v2 w2 own2 gr2 nn2; have HZ : Hid (w2.ownsRow w.heap.size 5 1 v2 (hdr 192 nb ++ b).length (bv (hdr 192 nb ++ b)) ∧ Below w.heap.size w w2) := ⟨glue_own (w0 := w) HL.out HN.out.1.symm own2 (Nat.le_refl _), HB.out.trans (grown_below gr2 ho1 (Nat.le_refl _) s1)⟩; clear own2 gr2 nn2 ho1 V1))
  go_ret
  exact ⟨_, rfl, HZ.out⟩
set_option maxRecDepth 100000 in
set_option maxHeartbeats 1600000 in
theorem rstr_any {w : World} {v : Value} {b : List Nat} (h : Vb w v b) (hlen : b.length ≤ 1099511627776) :
    Calls Tryz.prog 75 #[v] w fun e w' => ∃ v, e = .returned v ∧ w'.ownsRow w.heap.size 5 1 v (sF b).length (bv (sF b)) ∧ Below w.heap.size w w' := by
  obtain ⟨a, b2, off, c, rfl, hv, -, hnil, -⟩ := h
  by_cases ha : alone b = true
  · have hb1 : b.length = 1 ∧ gd b 0 < 128 := by simpa [alone] using ha
    have h1' := hv.at_
    have c0 := hv.cell 0 (by omega)
    have eb : b = [gd b 0] := by
      match b, hb1.1 with
      | [y], _ => rfl
    rw [sF_alone ha, hb1.1]
    obtain rfl := h1' (by omega)
    rw [eb]
    generalize gd b 0 = y at *
    have i1 : (y : Int) < 128 := by omega
    have own0 := World.ownsRow_lit (base := w.heap.size) (e := 5) (size := 1) w #[.int .u8 (y : Int)] 1 (Nat.le_refl _) (by decide) rfl
    have HO : Hid ((w.alloc (.cells #[.int .u8 (y : Int)] 5)).ownsRow w.heap.size 5 1 (.slice (some ⟨w.heap.size, 0, none⟩) 1 1) 1 [.int .u8 (y : Int)]) := own0
    clear own0 hb1 ha eb hv hnil h1' hlen
    rw [Nat.add_zero] at c0
    go_enter Tryz.func75, Tryz.ntmps75
    go_wp2_with fail
    go_ret
    refine ⟨_, rfl, ?_, below_alloc _ _⟩
    have e2 : bv [y] = [.int .u8 (y : Int)] := by simp [bv]
    rw [e2]
    exact HO.out
  · rw [sF_head ha]
    obtain ⟨nb, enb⟩ : ∃ nb, nb = b.length := ⟨_, rfl⟩
    have HV : Hid (∀ w', Below w.heap.size w w' → View w' a b2 off nb (fun i => ((gd b i : Nat) : Int))) := fun w' k => by rw [enb]; exact hv.below k
    have HN : Hid (nb = b.length ∧ (a = none → c = 0)) := ⟨enb, hnil⟩
    have K1 := header_any w 128 nb (by omega) (by omega)
    obtain ⟨hl, ehl⟩ : ∃ hl, hl = (hdr 128 nb).length := ⟨_, rfl⟩
    have hl16 : hl ≤ 16 := by rw [ehl]; exact hdr_len16 (by omega)
    rw [← ehl] at K1
    have HL : Hid (hl = (hdr 128 nb).length) := ehl
    have nbl : nb ≤ 1099511627776 := by omega
    by_cases hn1 : nb = 1
    · have c0 := hv.cell 0 (by omega)
      rw [Nat.add_zero] at c0
      have i1 : ¬ ((gd b 0 : Nat) : Int) < 128 := fun q => ha (by simp [alone, ← enb]; omega)
      obtain rfl := hv.at_ (by omega)
      rw [← enb]
      generalize gd b 0 = y at c0 i1
      subst hn1
      clear hv hnil enb hlen ehl ha
      go_enter Tryz.func75, Tryz.ntmps75
      go_wp2_with (first
        | (go_at_call 106; refine K1.mono ?_; rintro e w1 ⟨v1, rfl, ho1, b1, hnn1⟩; have V1 := HV.out w1 b1; have HB : Hid (Below w.heap.size w w1) := b1; have s1 := b1.size; clear b1 K1 c0)
        | (refine wpList_append_bytes (by rfl) (.tmp 18) (.tmp 19) (by rfl) w.heap.size v1 hl _ (by rfl) ho1 (some ⟨b2, off, none⟩) b2 off 1 c _ (by rfl) V1 HN.out.2 (by omega) s1 ?_; intro v2 w2 own2 gr2 nn2; have HZ : Hid (w2.ownsRow w.heap.size 5 1 v2 (hdr 128 1 ++ b).length (bv (hdr 128 1 ++ b)) ∧ Below w.heap.size w w2) := ⟨glue_own (w0 := w) HL.out HN.out.1.symm own2 (Nat.le_refl _), HB.out.trans (grown_below gr2 ho1 (Nat.le_refl _) s1)⟩; clear own2 gr2 nn2 ho1 V1))
      go_ret
      exact ⟨_, rfl, HZ.out⟩
    · have i1 : ¬ ((nb : Int) = 1) := by omega
      have i1b : ((nb : Int) == 1) = false := by simpa using i1
      rw [← enb]
      clear hv hnil enb hlen ehl ha
      go_enter Tryz.func75, Tryz.ntmps75
      go_wp2_with (first
        | (go_at_call 106; refine K1.mono ?_; rintro e w1 ⟨v1, rfl, ho1, b1, hnn1⟩; have V1 := HV.out w1 b1; have HB : Hid (Below w.heap.size w w1) := b1; have s1 := b1.size; clear b1 K1)
        | (refine wpList_append_bytes (by rfl) (.tmp 18) (.tmp 19) (by rfl) w.heap.size v1 hl _ (by rfl) ho1 a b2 off nb c _ (by rfl) V1 HN.out.2 (by omega) s1 ?_; intro v2 w2 own2 gr2 nn2; have HZ : Hid (w2.ownsRow w.heap.size 5 1 v2 (hdr 128 nb ++ b).length (bv (hdr 128 nb ++ b)) ∧ Below w.heap.size w w2) := ⟨glue_own (w0 := w) HL.out HN.out.1.symm own2 (Nat.le_refl _), HB.out.trans (grown_below gr2 ho1 (Nat.le_refl _) s1)⟩; clear own2 gr2 nn2 ho1 V1))
      go_ret
      exact ⟨_, rfl, HZ.out⟩
end Go.Proofs.YtepeolbbplodfaaGreatDoor
