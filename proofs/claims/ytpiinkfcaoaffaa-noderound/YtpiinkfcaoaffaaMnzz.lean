import Derived.Test.YtpiinkfcaoaffaaMazz
/-
  mayBe.
-/
namespace Go.Proofs.Ytpiinkfcaoaffaa
open Go.RowKit
set_option maxRecDepth 100000 in
set_option maxHeartbeats 1600000 in
theorem mayN_any {w : World} {n : Nd} {u : Nv} (h : Nin w n u) (hD : Nck n) : Calls Try.prog 15 #[.agg (nc n u).toArray] w fun e w' => e = .returned (.bool (mayN KD n)) ∧ Below w.heap.size w w' := by
  have HI : Hid (mayN KD n = if n.k = 1 then ends n && (decide (IsP n.path) && (!n.full && noKids n))
    else if n.k = 2 then leads KD n && (decide (IsP n.path) && (!n.full && noKids n))
    else if n.k = 3 then decide (n.path.length = 0) && (isNo n.next && isFd KD n)
    else false) := rfl
  have B1 : Below w.heap.size w (w.alloc (.cells (nc n u).toArray 29)) := below_alloc _ _
  have hn := h.W
  have nb := nb_new hn w u
  have ck := nb.k
  have KE := ends_any (h.keep B1)
  have KL := leads_any (h.keep B1) hD
  have HX : Hid (Nin w n u ∧ Nck n ∧ Nb (w.alloc (.cells (nc n u).toArray 29)) w.heap.size n u) := ⟨h, hD, nb⟩
  have hnb : ∀ {w' : World}, Below (w.alloc (.cells (nc n u).toArray 29)).heap.size (w.alloc (.cells (nc n u).toArray 29)) w' → Nb w' w.heap.size n u := fun b => HX.out.2.2.keep b
  have HP : Hid (∀ {w' : World}, Below (w.alloc (.cells (nc n u).toArray 29)).heap.size (w.alloc (.cells (nc n u).toArray 29)) w' → Calls Try.prog 23 #[u.p] w' fun e w'' => e = .returned (.bool (decide (IsP n.path))) ∧ Below w'.heap.size w' w'') := fun b => nisPath_any (Rel.keep HX.out.1.p (ch B1 b))
  have HN : Hid (∀ {w' : World}, Below (w.alloc (.cells (nc n u).toArray 29)).heap.size (w.alloc (.cells (nc n u).toArray 29)) w' → Calls Try.prog 24 #[.agg (nc n u).toArray] w' fun e w'' => e = .returned (.bool (noKids n)) ∧ Below w'.heap.size w' w'') := fun b => hasNoKids_any (HX.out.1.keep (ch B1 b))
  have HO : Hid (∀ {w' : World}, Below (w.alloc (.cells (nc n u).toArray 29)).heap.size (w.alloc (.cells (nc n u).toArray 29)) w' → Calls Try.prog 25 #[.agg (rcs n.next u.x).toArray] w' fun e w'' => e = .returned (.bool (isNo n.next)) ∧ Below w'.heap.size w' w'') := fun b => isNone_any HX.out.1.W.next (Rel.keep HX.out.1.x (ch B1 b))
  have HF : Hid (∀ {w' : World}, Below (w.alloc (.cells (nc n u).toArray 29)).heap.size (w.alloc (.cells (nc n u).toArray 29)) w' → Calls Try.prog 26 #[.agg (nc n u).toArray] w' fun e w'' => e = .returned (.bool (isFd KD n)) ∧ Below w'.heap.size w' w'') := fun b => isFilled_any (HX.out.1.keep (ch B1 b)) HX.out.2.1
  have HH : Hid (∀ {w' : World}, Below (w.alloc (.cells (nc n u).toArray 29)).heap.size (w.alloc (.cells (nc n u).toArray 29)) w' → Nb w' w.heap.size n u) := hnb
  obtain ⟨a, b, off, c, ep0, -, -, -, hl⟩ := h.p
  have EP : Hid (u.p = .slice a n.path.length c) := ep0
  have hh := hn.next.1
  clear hnb h hD ep0
  obtain ⟨e1, q1⟩ : ∃ e, e = ends n := ⟨_, rfl⟩
  obtain ⟨e2, q2⟩ : ∃ e, e = leads KD n := ⟨_, rfl⟩
  obtain ⟨p, q3⟩ : ∃ e, e = decide (IsP n.path) := ⟨_, rfl⟩
  obtain ⟨f, q4⟩ : ∃ e, e = n.full := ⟨_, rfl⟩
  obtain ⟨nk, q5⟩ : ∃ e, e = noKids n := ⟨_, rfl⟩
  obtain ⟨o, q6⟩ : ∃ e, e = isNo n.next := ⟨_, rfl⟩
  obtain ⟨d, q7⟩ : ∃ e, e = isFd KD n := ⟨_, rfl⟩
  rw [← q1] at KE
  rw [← q2] at KL
  rw [← q3] at HP
  rw [← q5] at HN
  rw [← q6] at HO
  rw [← q7] at HF
  have HQ : Hid (e1 = ends n ∧ e2 = leads KD n ∧ p = decide (IsP n.path) ∧ f = n.full ∧ nk = noKids n ∧ o = isNo n.next ∧ d = isFd KD n) := ⟨q1, q2, q3, q4, q5, q6, q7⟩
  clear q1 q2 q3 q4 q5 q6 q7
  by_cases k1 : n.k = 1
  · rw [k1] at ck
    have HK : Hid (n.k = 1) := k1
    clear k1 KL
    cases e1 with
    | false =>
      go_enter Try.func15, Try.ntmps15
      go_wp2_with (first | refine wpList_ld29 (by kernel_rfl) _ (by rfl) _ _ _ hn nb (by rfl) ?_ | (go_at_call 22; refine KE.mono ?_; rintro e w1 ⟨rfl, hb1⟩; have HB1 : Hid (Below (w.alloc (.cells (nc n u).toArray 29)).heap.size (w.alloc (.cells (nc n u).toArray 29)) w1) := hb1; have cp := (HH.out hb1).p; have KP := HP.out hb1; clear hb1))
      go_ret
      rw [HI.out, if_pos HK.out, ← HQ.out.1]
      exact ⟨rfl, ch B1 HB1.out⟩
    | true =>
      cases p with
      | false =>
        go_enter Try.func15, Try.ntmps15
        go_wp2_with (first | refine wpList_ld29 (by kernel_rfl) _ (by rfl) _ _ _ hn nb (by rfl) ?_ | (go_at_call 22; refine KE.mono ?_; rintro e w1 ⟨rfl, hb1⟩; have HB1 : Hid (Below (w.alloc (.cells (nc n u).toArray 29)).heap.size (w.alloc (.cells (nc n u).toArray 29)) w1) := hb1; have cp := (HH.out hb1).p; have KP := HP.out hb1; clear hb1) | (go_at_call 23; refine KP.mono ?_; rintro e w2 ⟨rfl, hb2⟩; have HB2 : Hid (Below (w.alloc (.cells (nc n u).toArray 29)).heap.size (w.alloc (.cells (nc n u).toArray 29)) w2) := ch HB1.out hb2; have cf := (HH.out HB2.out).f; have nb2 := HH.out HB2.out; have KN := HN.out HB2.out; rw [← HQ.out.2.2.2.1] at cf; clear hb2))
        go_ret
        rw [HI.out, if_pos HK.out, ← HQ.out.1, ← HQ.out.2.2.1]
        exact ⟨rfl, ch B1 HB2.out⟩
      | true =>
        cases f with
        | true =>
          go_enter Try.func15, Try.ntmps15
          go_wp2_with (first | refine wpList_ld29 (by kernel_rfl) _ (by rfl) _ _ _ hn nb (by rfl) ?_ | (go_at_call 22; refine KE.mono ?_; rintro e w1 ⟨rfl, hb1⟩; have HB1 : Hid (Below (w.alloc (.cells (nc n u).toArray 29)).heap.size (w.alloc (.cells (nc n u).toArray 29)) w1) := hb1; have cp := (HH.out hb1).p; have KP := HP.out hb1; clear hb1) | (go_at_call 23; refine KP.mono ?_; rintro e w2 ⟨rfl, hb2⟩; have HB2 : Hid (Below (w.alloc (.cells (nc n u).toArray 29)).heap.size (w.alloc (.cells (nc n u).toArray 29)) w2) := ch HB1.out hb2; have cf := (HH.out HB2.out).f; have nb2 := HH.out HB2.out; have KN := HN.out HB2.out; rw [← HQ.out.2.2.2.1] at cf; clear hb2))
          go_ret
          rw [HI.out, if_pos HK.out, ← HQ.out.1, ← HQ.out.2.2.1, ← HQ.out.2.2.2.1]
          exact ⟨rfl, ch B1 HB2.out⟩
        | false =>
          go_enter Try.func15, Try.ntmps15
          go_wp2_with (first | refine wpList_ld29 (by kernel_rfl) _ (by rfl) _ _ _ hn nb2 (by rfl) ?_ | refine wpList_ld29 (by kernel_rfl) _ (by rfl) _ _ _ hn nb (by rfl) ?_ | (go_at_call 22; refine KE.mono ?_; rintro e w1 ⟨rfl, hb1⟩; have HB1 : Hid (Below (w.alloc (.cells (nc n u).toArray 29)).heap.size (w.alloc (.cells (nc n u).toArray 29)) w1) := hb1; have cp := (HH.out hb1).p; have KP := HP.out hb1; clear hb1) | (go_at_call 23; refine KP.mono ?_; rintro e w2 ⟨rfl, hb2⟩; have HB2 : Hid (Below (w.alloc (.cells (nc n u).toArray 29)).heap.size (w.alloc (.cells (nc n u).toArray 29)) w2) := ch HB1.out hb2; have cf := (HH.out HB2.out).f; have nb2 := HH.out HB2.out; have KN := HN.out HB2.out; rw [← HQ.out.2.2.2.1] at cf; clear hb2) | (go_at_call 24; refine KN.mono ?_; rintro e w3 ⟨rfl, hb3⟩; have HB3 : Hid (Below (w.alloc (.cells (nc n u).toArray 29)).heap.size (w.alloc (.cells (nc n u).toArray 29)) w3) := ch HB2.out hb3; clear hb3))
          go_ret
          rw [HI.out, if_pos HK.out, ← HQ.out.1, ← HQ.out.2.2.1, ← HQ.out.2.2.2.1, ← HQ.out.2.2.2.2.1]
          exact ⟨rfl, ch B1 HB3.out⟩
  · have j1 : (n.k == 1) = false := by simpa using k1
    by_cases k2 : n.k = 2
    · rw [k2] at ck
      have HK : Hid (n.k = 2 ∧ ¬ n.k = 1) := ⟨k2, k1⟩
      clear k1 k2 j1 KE
      cases e2 with
      | false =>
        go_enter Try.func15, Try.ntmps15
        go_wp2_with (first | refine wpList_ld29 (by kernel_rfl) _ (by rfl) _ _ _ hn nb (by rfl) ?_ | (go_at_call 21; refine KL.mono ?_; rintro e w1 ⟨rfl, hb1⟩; have HB1 : Hid (Below (w.alloc (.cells (nc n u).toArray 29)).heap.size (w.alloc (.cells (nc n u).toArray 29)) w1) := hb1; have cp := (HH.out hb1).p; have KP := HP.out hb1; clear hb1))
        go_ret
        rw [HI.out, if_neg HK.out.2, if_pos HK.out.1, ← HQ.out.2.1]
        exact ⟨rfl, ch B1 HB1.out⟩
      | true =>
        cases p with
        | false =>
          go_enter Try.func15, Try.ntmps15
          go_wp2_with (first | refine wpList_ld29 (by kernel_rfl) _ (by rfl) _ _ _ hn nb (by rfl) ?_ | (go_at_call 21; refine KL.mono ?_; rintro e w1 ⟨rfl, hb1⟩; have HB1 : Hid (Below (w.alloc (.cells (nc n u).toArray 29)).heap.size (w.alloc (.cells (nc n u).toArray 29)) w1) := hb1; have cp := (HH.out hb1).p; have KP := HP.out hb1; clear hb1) | (go_at_call 23; refine KP.mono ?_; rintro e w2 ⟨rfl, hb2⟩; have HB2 : Hid (Below (w.alloc (.cells (nc n u).toArray 29)).heap.size (w.alloc (.cells (nc n u).toArray 29)) w2) := ch HB1.out hb2; have cf := (HH.out HB2.out).f; have nb2 := HH.out HB2.out; have KN := HN.out HB2.out; rw [← HQ.out.2.2.2.1] at cf; clear hb2))
          go_ret
          rw [HI.out, if_neg HK.out.2, if_pos HK.out.1, ← HQ.out.2.1, ← HQ.out.2.2.1]
          exact ⟨rfl, ch B1 HB2.out⟩
        | true =>
          cases f with
          | true =>
            go_enter Try.func15, Try.ntmps15
            go_wp2_with (first | refine wpList_ld29 (by kernel_rfl) _ (by rfl) _ _ _ hn nb (by rfl) ?_ | (go_at_call 21; refine KL.mono ?_; rintro e w1 ⟨rfl, hb1⟩; have HB1 : Hid (Below (w.alloc (.cells (nc n u).toArray 29)).heap.size (w.alloc (.cells (nc n u).toArray 29)) w1) := hb1; have cp := (HH.out hb1).p; have KP := HP.out hb1; clear hb1) | (go_at_call 23; refine KP.mono ?_; rintro e w2 ⟨rfl, hb2⟩; have HB2 : Hid (Below (w.alloc (.cells (nc n u).toArray 29)).heap.size (w.alloc (.cells (nc n u).toArray 29)) w2) := ch HB1.out hb2; have cf := (HH.out HB2.out).f; have nb2 := HH.out HB2.out; have KN := HN.out HB2.out; rw [← HQ.out.2.2.2.1] at cf; clear hb2))
            go_ret
            rw [HI.out, if_neg HK.out.2, if_pos HK.out.1, ← HQ.out.2.1, ← HQ.out.2.2.1, ← HQ.out.2.2.2.1]
            exact ⟨rfl, ch B1 HB2.out⟩
          | false =>
            go_enter Try.func15, Try.ntmps15
            go_wp2_with (first | refine wpList_ld29 (by kernel_rfl) _ (by rfl) _ _ _ hn nb2 (by rfl) ?_ | refine wpList_ld29 (by kernel_rfl) _ (by rfl) _ _ _ hn nb (by rfl) ?_ | (go_at_call 21; refine KL.mono ?_; rintro e w1 ⟨rfl, hb1⟩; have HB1 : Hid (Below (w.alloc (.cells (nc n u).toArray 29)).heap.size (w.alloc (.cells (nc n u).toArray 29)) w1) := hb1; have cp := (HH.out hb1).p; have KP := HP.out hb1; clear hb1) | (go_at_call 23; refine KP.mono ?_; rintro e w2 ⟨rfl, hb2⟩; have HB2 : Hid (Below (w.alloc (.cells (nc n u).toArray 29)).heap.size (w.alloc (.cells (nc n u).toArray 29)) w2) := ch HB1.out hb2; have cf := (HH.out HB2.out).f; have nb2 := HH.out HB2.out; have KN := HN.out HB2.out; rw [← HQ.out.2.2.2.1] at cf; clear hb2) | (go_at_call 24; refine KN.mono ?_; rintro e w3 ⟨rfl, hb3⟩; have HB3 : Hid (Below (w.alloc (.cells (nc n u).toArray 29)).heap.size (w.alloc (.cells (nc n u).toArray 29)) w3) := ch HB2.out hb3; clear hb3))
            go_ret
            rw [HI.out, if_neg HK.out.2, if_pos HK.out.1, ← HQ.out.2.1, ← HQ.out.2.2.1, ← HQ.out.2.2.2.1, ← HQ.out.2.2.2.2.1]
            exact ⟨rfl, ch B1 HB3.out⟩
    · have j2 : (n.k == 2) = false := by simpa using k2
      clear KE KL
      by_cases k3 : n.k = 3
      · rw [k3] at ck
        have HK : Hid (n.k = 3 ∧ ¬ n.k = 2 ∧ ¬ n.k = 1) := ⟨k3, k2, k1⟩
        clear k1 k2 k3 j1 j2
        have cp := nb.p
        have cx := nb.x
        rw [EP.out] at cp
        have KO := HO.out (Below.refl _ _)
        obtain ⟨m, em⟩ : ∃ m, m = n.path.length := ⟨_, rfl⟩
        rw [← em] at cp hl
        have HM : Hid (m = n.path.length) := em
        clear em EP
        by_cases m0 : m = 0
        · subst m0
          cases o with
          | false =>
            go_enter Try.func15, Try.ntmps15
            go_wp2_with (first | refine wpList_ld26 (by kernel_rfl) _ (by rfl) _ _ _ _ hh cx (by rfl) ?_ | (go_at_call 25; refine KO.mono ?_; rintro e w1 ⟨rfl, hb1⟩; have HB1 : Hid (Below (w.alloc (.cells (nc n u).toArray 29)).heap.size (w.alloc (.cells (nc n u).toArray 29)) w1) := hb1; have nb1 := HH.out hb1; have KF := HF.out hb1; clear hb1))
            go_ret
            rw [HI.out, if_neg HK.out.2.2, if_neg HK.out.2.1, if_pos HK.out.1, ← HM.out, ← HQ.out.2.2.2.2.2.1]
            exact ⟨rfl, ch B1 HB1.out⟩
          | true =>
            go_enter Try.func15, Try.ntmps15
            go_wp2_with (first | refine wpList_ld26 (by kernel_rfl) _ (by rfl) _ _ _ _ hh cx (by rfl) ?_ | (go_at_call 25; refine KO.mono ?_; rintro e w1 ⟨rfl, hb1⟩; have HB1 : Hid (Below (w.alloc (.cells (nc n u).toArray 29)).heap.size (w.alloc (.cells (nc n u).toArray 29)) w1) := hb1; have nb1 := HH.out hb1; have KF := HF.out hb1; clear hb1) | refine wpList_ld29 (by kernel_rfl) _ (by rfl) _ _ _ hn nb1 (by rfl) ?_ | (go_at_call 26; refine KF.mono ?_; rintro e w2 ⟨rfl, hb2⟩; have HB2 : Hid (Below (w.alloc (.cells (nc n u).toArray 29)).heap.size (w.alloc (.cells (nc n u).toArray 29)) w2) := ch HB1.out hb2; clear hb2))
            go_ret
            rw [HI.out, if_neg HK.out.2.2, if_neg HK.out.2.1, if_pos HK.out.1, ← HM.out, ← HQ.out.2.2.2.2.2.1, ← HQ.out.2.2.2.2.2.2]
            exact ⟨rfl, ch B1 HB2.out⟩
        · have j0 : ((m : Int) == 0) = false := by simp; omega
          have j0b : ¬ (m : Int) = 0 := by omega
          go_enter Try.func15, Try.ntmps15
          go_wp2_with fail
          go_ret
          rw [HI.out, if_neg HK.out.2.2, if_neg HK.out.2.1, if_pos HK.out.1, ← HM.out, decide_eq_false m0]
          exact ⟨rfl, B1⟩
      · have j3 : (n.k == 3) = false := by simpa using k3
        go_enter Try.func15, Try.ntmps15
        go_wp2_with fail
        go_ret
        rw [HI.out, if_neg k1, if_neg k2, if_neg k3]
        exact ⟨rfl, B1⟩
end Go.Proofs.Ytpiinkfcaoaffaa
