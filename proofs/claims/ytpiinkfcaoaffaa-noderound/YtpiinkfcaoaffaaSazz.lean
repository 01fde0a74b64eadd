import Derived.Test.YtpiinkfcaoaffaaEnzz
/-
  cairnref07.SameRef, cairnref07.Same.
-/
namespace Go.Proofs.Ytpiinkfcaoaffaa
open Go.RowKit
set_option maxRecDepth 100000 in
set_option maxHeartbeats 1600000 in
theorem sameRef_any {w : World} {r q : Rf} {v t : Value} (hr : r.W) (hv : Vb w v r.b) (hq : q.W) (ht : Vb w t q.b) : Calls Try.prog 20 #[.agg (rcs r v).toArray, .agg (rcs q t).toArray] w fun e w' => e = .returned (.bool (decide (r = q))) ∧ Below w.heap.size w w' := by
  have B : Below w.heap.size w ((w.alloc (.cells (rcs r v).toArray 26)).alloc (.cells (rcs q t).toArray 26)) := (below_alloc _ _).alloc (by simp) _
  have rg := rng_keep (rng_ref_new w r v 26) (below_alloc (w.alloc (.cells (rcs r v).toArray 26)) (.cells (rcs q t).toArray 26))
  have rh := rng_ref_new (w.alloc (.cells (rcs r v).toArray 26)) q t 26
  rw [World.size_alloc] at rh
  have h1 := hr.1
  have h2 := hq.1
  obtain ⟨c0, c1, c2⟩ := rng_ref h1 rg
  obtain ⟨d0, d1, d2⟩ := rng_ref h2 rh
  rw [Nat.zero_add] at c1 c2 d1 d2
  have heq := fun w0 => eq_hash w0 r.h q.h hr.1 hr.2.1 hq.1 hq.2.1
  have cv := conv_vb (Rel.keep hv B)
  have ct := conv_vb (Rel.keep ht B)
  have HB : Hid (Below w.heap.size w ((w.alloc (.cells (rcs r v).toArray 26)).alloc (.cells (rcs q t).toArray 26))) := B
  have HE : Hid (decide (r = q) = (decide (r.k = q.k) && (decide (r.h = q.h) && decide (r.b = q.b)))) := by
    show _ = _
    rw [Bool.eq_iff_iff]
    simp only [Bool.and_eq_true, decide_eq_true_eq]
    constructor
    · rintro rfl
      exact ⟨rfl, rfl, rfl⟩
    · rintro ⟨e1, e2, e3⟩
      cases r
      cases q
      simp only at e1 e2 e3
      subst e1 e2 e3
      rfl
  have sne := sB_ne (vb_byt hv) (vb_byt ht)
  obtain ⟨S, eS⟩ : ∃ S, S = sB r.b := ⟨_, rfl⟩
  obtain ⟨T, eT⟩ : ∃ T, T = sB q.b := ⟨_, rfl⟩
  rw [← eS] at cv sne
  rw [← eT] at ct sne
  have HS : Hid (S = sB r.b ∧ T = sB q.b) := ⟨eS, eT⟩
  have HSN : Hid (r.b ≠ q.b → S ≠ T ∧ (S.toList == T.toList) = false ∧ (S == T) = false) := sne
  clear B eS eT sne hv ht hr hq
  by_cases k : r.k = q.k
  · have jk : (r.k == q.k) = true := by simpa using k
    have HK : Hid (r.k = q.k) := k
    rw [k] at c0
    clear k jk
    by_cases hz : r.h = q.h
    · have HZ : Hid (r.h = q.h) := hz
      rw [decide_eq_true hz] at heq
      clear hz
      by_cases hb : r.b = q.b
      · have eST : S = T := by rw [HS.out.1, HS.out.2, hb]
        subst eST
        have HBQ : Hid (r.b = q.b) := hb
        clear hb
        go_enter Try.func20, Try.ntmps20
        go_wp2_with (first | refine wpList_ld24 (by kernel_rfl) _ (by rfl) _ _ _ h1 c1 (by rfl) ?_ | refine wpList_ld24 (by kernel_rfl) _ (by rfl) _ _ _ h2 d1 (by rfl) ?_)
        go_ret
        rw [HE.out, decide_eq_true HK.out, decide_eq_true HZ.out, decide_eq_true HBQ.out]
        exact ⟨rfl, HB.out⟩
      · obtain ⟨n1, n2, n3⟩ := HSN.out hb
        go_enter Try.func20, Try.ntmps20
        go_wp2_with (first | refine wpList_ld24 (by kernel_rfl) _ (by rfl) _ _ _ h1 c1 (by rfl) ?_ | refine wpList_ld24 (by kernel_rfl) _ (by rfl) _ _ _ h2 d1 (by rfl) ?_)
        go_ret
        rw [HE.out, decide_eq_true HK.out, decide_eq_true HZ.out, decide_eq_false hb]
        exact ⟨rfl, HB.out⟩
    · rw [decide_eq_false hz] at heq
      go_enter Try.func20, Try.ntmps20
      go_wp2_with (first | refine wpList_ld24 (by kernel_rfl) _ (by rfl) _ _ _ h1 c1 (by rfl) ?_ | refine wpList_ld24 (by kernel_rfl) _ (by rfl) _ _ _ h2 d1 (by rfl) ?_)
      go_ret
      rw [HE.out, decide_eq_true HK.out, decide_eq_false hz]
      exact ⟨rfl, HB.out⟩
  · have jk : (r.k == q.k) = false := by simpa using k
    go_enter Try.func20, Try.ntmps20
    go_wp2_with (first | refine wpList_ld24 (by kernel_rfl) _ (by rfl) _ _ _ h1 c1 (by rfl) ?_ | refine wpList_ld24 (by kernel_rfl) _ (by rfl) _ _ _ h2 d1 (by rfl) ?_)
    go_ret
    rw [HE.out, decide_eq_false k]
    exact ⟨rfl, HB.out⟩
theorem eSameR : ∀ args w, (callFunc 20 args).run Try.prog w = .ok (.enter 20 args) w := enters_of Try.func20 (by kernel_rfl) rfl
theorem kids_ext {l l' : List Rf} (h : l.length = 16) (h' : l'.length = 16) (k : ∀ i r q, i < 16 → l[i]? = some r → l'[i]? = some q → r = q) : l = l' := by
  refine List.ext_getElem (by omega) (fun i h1 h2 => k i _ _ (by omega) (List.getElem?_eq_getElem h1) (List.getElem?_eq_getElem h2))
theorem nd_ext {n m : Nd} (h1 : n.k = m.k) (h2 : n.full = m.full) (h3 : n.path = m.path) (h4 : n.val = m.val) (h5 : n.next = m.next) (h6 : n.kids = m.kids) : n = m := by
  cases n
  cases m
  simp only at h1 h2 h3 h4 h5 h6
  subst h1 h2 h3 h4 h5 h6
  rfl
set_option maxRecDepth 100000 in
set_option maxHeartbeats 3200000 in
theorem same_loop {w : World} {n m : Nd} {u t : Nv} (h : Nin w n u) (h' : Nin w m t) : Calls Try.prog 10 #[.agg (nc n u).toArray, .agg (nc m t).toArray] w fun e w' => e = .returned (.bool (decide (n = m))) ∧ Below w.heap.size w w' := by
  have B : Below w.heap.size w ((w.alloc (.cells (nc n u).toArray 29)).alloc (.cells (nc m t).toArray 29)) := (below_alloc _ _).alloc (by simp) _
  have nbn := (nb_new h.W w u).keep (below_alloc (w.alloc (.cells (nc n u).toArray 29)) (.cells (nc m t).toArray 29))
  have nbm := nb_new h'.W (w.alloc (.cells (nc n u).toArray 29)) t
  rw [World.size_alloc] at nbm
  have HN : Hid (Nin w n u ∧ Nin w m t ∧ Nb ((w.alloc (.cells (nc n u).toArray 29)).alloc (.cells (nc m t).toArray 29)) w.heap.size n u ∧ Nb ((w.alloc (.cells (nc n u).toArray 29)).alloc (.cells (nc m t).toArray 29)) (w.heap.size + 1) m t ∧ Below w.heap.size w ((w.alloc (.cells (nc n u).toArray 29)).alloc (.cells (nc m t).toArray 29))) := ⟨h, h', nbn, nbm, B⟩
  have a0 := nbn.k
  have a1 := nbn.p
  have a2 := nbn.v
  have a3 := nbn.f
  have a4 := nbn.x
  have b0 := nbm.k
  have b1 := nbm.p
  have b2 := nbm.v
  have b3 := nbm.f
  have b4 := nbm.x
  have hh := h.W.next.1
  have hh' := h'.W.next.1
  have cp := conv_vb (Rel.keep h.p B)
  have cp' := conv_vb (Rel.keep h'.p B)
  have cv := conv_vb (Rel.keep h.v B)
  have cv' := conv_vb (Rel.keep h'.v B)
  have KR := sameRef_any h.W.next (Rel.keep h.x B) h'.W.next (Rel.keep h'.x B)
  have HPN : Hid (n.path ≠ m.path → sB n.path ≠ sB m.path ∧ ((sB n.path).toList == (sB m.path).toList) = false ∧ (sB n.path == sB m.path) = false) := sB_ne (vb_byt h.p) (vb_byt h'.p)
  have HVN : Hid (n.val ≠ m.val → sB n.val ≠ sB m.val ∧ ((sB n.val).toList == (sB m.val).toList) = false ∧ (sB n.val == sB m.val) = false) := sB_ne (vb_byt h.v) (vb_byt h'.v)
  obtain ⟨P1, eP1⟩ : ∃ S, S = sB n.path := ⟨_, rfl⟩
  obtain ⟨P2, eP2⟩ : ∃ S, S = sB m.path := ⟨_, rfl⟩
  obtain ⟨V1, eV1⟩ : ∃ S, S = sB n.val := ⟨_, rfl⟩
  obtain ⟨V2, eV2⟩ : ∃ S, S = sB m.val := ⟨_, rfl⟩
  rw [← eP1] at cp
  rw [← eP2] at cp'
  rw [← eV1] at cv
  rw [← eV2] at cv'
  rw [← eP1, ← eP2] at HPN
  rw [← eV1, ← eV2] at HVN
  have HS : Hid (P1 = sB n.path ∧ P2 = sB m.path ∧ V1 = sB n.val ∧ V2 = sB m.val) := ⟨eP1, eP2, eV1, eV2⟩
  obtain ⟨rq, erq⟩ : ∃ q, q = decide (n.next = m.next) := ⟨_, rfl⟩
  rw [← erq] at KR
  have HRQ : Hid (rq = decide (n.next = m.next)) := erq
  obtain ⟨nf, enf⟩ : ∃ q, q = n.full := ⟨_, rfl⟩
  obtain ⟨mf, emf⟩ : ∃ q, q = m.full := ⟨_, rfl⟩
  rw [← enf] at a3
  rw [← emf] at b3
  have HF : Hid (nf = n.full ∧ mf = m.full) := ⟨enf, emf⟩
  clear h h' nbn nbm B eP1 eP2 eV1 eV2 erq enf emf
  by_cases k : n.k = m.k
  · have HK : Hid (n.k = m.k) := k
    rw [k] at a0
    have jk : (m.k != m.k) = false := by simp
    clear k
    by_cases f : nf = mf
    · subst f
      have jf : (nf != nf) = false := by simp
      by_cases p : n.path = m.path
      · have ep : P1 = P2 := by rw [HS.out.1, HS.out.2.1, p]
        subst ep
        have HP : Hid (n.path = m.path) := p
        clear p
        by_cases v : n.val = m.val
        · have ev : V1 = V2 := by rw [HS.out.2.2.1, HS.out.2.2.2, v]
          subst ev
          have HV : Hid (n.val = m.val) := v
          clear v
          cases rq with
          | true =>
            have HX : Hid (n.next = m.next) := by show n.next = m.next; simpa using HRQ.out.symm
            go_enter Try.func10, Try.ntmps10
            go_wp2_with (first | refine wpList_ld26 (by kernel_rfl) _ (by rfl) _ _ _ _ hh a4 (by rfl) ?_ | refine wpList_ld26 (by kernel_rfl) _ (by rfl) _ _ _ _ hh' b4 (by rfl) ?_ | (go_at_call 20; refine KR.mono ?_; rintro e w1 ⟨rfl, hb1⟩; have HB1 : Hid (Below ((w.alloc (.cells (nc n u).toArray 29)).alloc (.cells (nc m t).toArray 29)).heap.size ((w.alloc (.cells (nc n u).toArray 29)).alloc (.cells (nc m t).toArray 29)) w1) := hb1; clear hb1))
            clear KR cp cp' cv cv' a0 a1 a2 a3 a4 b0 b1 b2 b3 b4
            go_loopg [5] 16 (fun gg k wr => ∃ (i : Nat), i ≤ 16 ∧ gg = 16 - i ∧ k = .int .i64 i ∧ Below ((w.alloc (.cells (nc n u).toArray 29)).alloc (.cells (nc m t).toArray 29)).heap.size ((w.alloc (.cells (nc n u).toArray 29)).alloc (.cells (nc m t).toArray 29)) wr ∧ ∀ j r q, j < i → n.kids[j]? = some r → m.kids[j]? = some q → r = q)
            case atStart => exact ⟨0, by omega, rfl, rfl, HB1.out, fun j r q hj => by omega⟩
            case round =>
              obtain ⟨i, hi, rfl, rfl, hb, hd⟩ := hrel
              by_cases hin : i < 16
              · have i1 : (i : Int) < 16 := by omega
                obtain ⟨r, hr, -, hrW, hrb⟩ := HN.out.1.kid hin
                obtain ⟨q, hq, -, hqW, hqb⟩ := HN.out.2.1.kid hin
                have rg := (HN.out.2.2.1.keep hb).kid hr
                have rh := (HN.out.2.2.2.1.keep hb).kid hq
                have r32 := hrW.1
                have q32 := hqW.1
                have bw : Below w.heap.size w wr := ch HN.out.2.2.2.2 hb
                have KK := sameRef_any (w := wr.drew) hrW (Rel.keep hrb (bw.trans ((Below.refl _ _).drew))) hqW (Rel.keep hqb (bw.trans ((Below.refl _ _).drew)))
                have HG : Hid (∀ w', Below wr.heap.size wr w' → w'.rangeAt w.heap.size (38 + i * 34) (rcs r (u.k i)) ∧ w'.rangeAt (w.heap.size + 1) (38 + i * 34) (rcs q (t.k i))) := fun w' k => ⟨rng_keep rg k, rng_keep rh k⟩
                have HX2 : Hid (n.kids[i]? = some r ∧ m.kids[i]? = some q ∧ (∀ j r q, j < i → n.kids[j]? = some r → m.kids[j]? = some q → r = q) ∧ Below ((w.alloc (.cells (nc n u).toArray 29)).alloc (.cells (nc m t).toArray 29)).heap.size ((w.alloc (.cells (nc n u).toArray 29)).alloc (.cells (nc m t).toArray 29)) wr) := ⟨hr, hq, hd, hb⟩
                obtain ⟨z, ez⟩ : ∃ z, z = decide (r = q) := ⟨_, rfl⟩
                rw [← ez] at KK
                have HZ : Hid (z = decide (r = q)) := ez
                have HKK : Hid (Calls Try.prog 20 #[.agg (rcs r (u.k i)).toArray, .agg (rcs q (t.k i)).toArray] wr.drew fun e w' => e = .returned (.bool z) ∧ Below wr.drew.heap.size wr.drew w') := KK
                clear hr hq hrW hqW hrb hqb hd hb bw rg rh KK ez
                go_upto_region 6 with (fail)
                refine wp_region_held_drew (S := fun w' => Below wr.heap.size wr w') (by kernel_rfl) (Below.drew (Below.refl _ _)) ?_
                intro hS
                change wpAnyH _ _ _ _ _ 10 _ _ _
                refine wpAnyH_take (i := 0) (v := (.int .i64 i)) (by simp only [List.getElem?_toArray, List.getElem?_cons_zero]; rfl) (by kernel_rfl) (by kernel_rfl) (by kernel_rfl) (by exact fun _ _ _ h => h) (y_move (by kernel_rfl) _ rfl _ rfl) hS ?_
                try simp only [Act.put, List.setIfInBounds_toArray, List.set_cons_zero, List.set_cons_succ]
                refine wpAnyH_take (i := 1) (v := (.pointer (some ⟨w.heap.size, 38, none⟩))) (by simp only [List.getElem?_toArray, List.getElem?_cons_zero, List.getElem?_cons_succ]; rfl) (by kernel_rfl) (by kernel_rfl) (by kernel_rfl) (by exact fun _ _ _ h => h) (y_f29k (by kernel_rfl) _ rfl _ rfl) hS ?_
                try simp only [Act.put, List.setIfInBounds_toArray, List.set_cons_zero, List.set_cons_succ]
                refine wpAnyH_take (i := 2) (v := (.pointer (some ⟨w.heap.size, 38 + i * 34, none⟩))) (by simp only [List.getElem?_toArray, List.getElem?_cons_zero, List.getElem?_cons_succ]; rfl) (by kernel_rfl) (by kernel_rfl) (by kernel_rfl) (by exact fun _ _ _ h => h) (y_i27 (by kernel_rfl) _ _ rfl _ _ i rfl rfl hin) hS ?_
                try simp only [Act.put, List.setIfInBounds_toArray, List.set_cons_zero, List.set_cons_succ]
                refine wpAnyH_take (i := 3) (v := (.agg (rcs r (u.k i)).toArray)) (by simp only [List.getElem?_toArray, List.getElem?_cons_zero, List.getElem?_cons_succ]; rfl) (by kernel_rfl) (by kernel_rfl) (by kernel_rfl) (by exact fun _ _ _ h => h) (y_ld26 (by kernel_rfl) _ rfl _ _ rfl r (u.k i) r32 (fun w' hs => (HG.out w' hs).1)) hS ?_
                try simp only [Act.put, List.setIfInBounds_toArray, List.set_cons_zero, List.set_cons_succ]
                refine wpAnyH_take (i := 4) (v := (.int .i64 i)) (by simp only [List.getElem?_toArray, List.getElem?_cons_zero, List.getElem?_cons_succ]; rfl) (by kernel_rfl) (by kernel_rfl) (by kernel_rfl) (by exact fun _ _ _ h => h) (y_move (by kernel_rfl) _ rfl _ rfl) hS ?_
                try simp only [Act.put, List.setIfInBounds_toArray, List.set_cons_zero, List.set_cons_succ]
                refine wpAnyH_take (i := 5) (v := (.pointer (some ⟨w.heap.size + 1, 38, none⟩))) (by simp only [List.getElem?_toArray, List.getElem?_cons_zero, List.getElem?_cons_succ]; rfl) (by kernel_rfl) (by kernel_rfl) (by kernel_rfl) (by exact fun _ _ _ h => h) (y_f29k (by kernel_rfl) _ rfl _ rfl) hS ?_
                try simp only [Act.put, List.setIfInBounds_toArray, List.set_cons_zero, List.set_cons_succ]
                refine wpAnyH_take (i := 6) (v := (.pointer (some ⟨w.heap.size + 1, 38 + i * 34, none⟩))) (by simp only [List.getElem?_toArray, List.getElem?_cons_zero, List.getElem?_cons_succ]; rfl) (by kernel_rfl) (by kernel_rfl) (by kernel_rfl) (by exact fun _ _ _ h => h) (y_i27 (by kernel_rfl) _ _ rfl _ _ i rfl rfl hin) hS ?_
                try simp only [Act.put, List.setIfInBounds_toArray, List.set_cons_zero, List.set_cons_succ]
                refine wpAnyH_take (i := 7) (v := (.agg (rcs q (t.k i)).toArray)) (by simp only [List.getElem?_toArray, List.getElem?_cons_zero, List.getElem?_cons_succ]; rfl) (by kernel_rfl) (by kernel_rfl) (by kernel_rfl) (by exact fun _ _ _ h => h) (y_ld26 (by kernel_rfl) _ rfl _ _ rfl q (t.k i) q32 (fun w' hs => (HG.out w' hs).2)) hS ?_
                try simp only [Act.put, List.setIfInBounds_toArray, List.set_cons_zero, List.set_cons_succ]
                refine wpAnyH_ready (rs := [8]) (by kernel_rfl) (by simp) ?_
                refine AllReadyH.cons (by simp only [List.getElem?_toArray, List.getElem?_cons_zero, List.getElem?_cons_succ]; rfl) (fun K hK => ?_) AllReadyH.nil
                refine r_call2 20 _ _ _ rfl (by kernel_rfl) _ _ rfl rfl eSameR ?_
                refine HKK.out.mono ?_
                rintro e w3 ⟨rfl, b3⟩
                refine ⟨_, rfl, ?_⟩
                refine hK.out _ _ (ch (Below.drew (Below.refl _ _)) b3) (fun hS => ?_)
                clear b3
                clear hK K
                try simp only [Act.put, List.setIfInBounds_toArray, List.set_cons_zero, List.set_cons_succ]
                refine wpAnyH_take (i := 9) (v := (.bool (!z))) (by simp only [List.getElem?_toArray, List.getElem?_cons_zero, List.getElem?_cons_succ]; rfl) (by kernel_rfl) (by kernel_rfl) (by kernel_rfl) (by exact fun _ _ _ h => h) (y_not (by kernel_rfl) _ rfl _ rfl) hS ?_
                try simp only [Act.put, List.setIfInBounds_toArray, List.set_cons_zero, List.set_cons_succ]
                refine wpAnyH_done (by kernel_rfl) ?_ _
                have HB3 : Hid (Below ((w.alloc (.cells (nc n u).toArray 29)).alloc (.cells (nc m t).toArray 29)).heap.size ((w.alloc (.cells (nc n u).toArray 29)).alloc (.cells (nc m t).toArray 29)) w3) := ch HX2.out.2.2.2 hS
                clear hS
                cases z with
                | true =>
                  go_wp2_with fail
                  go_roundg (16 - (i + 1))
                  case measure => omega
                  case rel =>
                    refine ⟨i + 1, hin, rfl, by go_num, HB3.out, fun j r' q' hj hr' hq' => ?_⟩
                    by_cases e : j = i
                    · subst e
                      have e1 := hr'.symm.trans HX2.out.1
                      have e2 := hq'.symm.trans HX2.out.2.1
                      cases e1
                      cases e2
                      simpa using HZ.out.symm
                    · exact HX2.out.2.2.1 j r' q' (by omega) hr' hq'
                | false =>
                  go_wp2_with fail
                  go_ret
                  have hne : r ≠ q := by simpa using HZ.out.symm
                  rw [decide_eq_false (fun e => hne (by
                    have e1 := HX2.out.1
                    rw [e, HX2.out.2.1] at e1
                    exact (Option.some.inj e1).symm))]
                  exact ⟨rfl, ch HN.out.2.2.2.2 HB3.out⟩
              · have i1 : ¬ (i : Int) < 16 := by omega
                have HE : Hid (n = m) := nd_ext HK.out (by rw [← HF.out.1, ← HF.out.2]) HP.out HV.out HX.out (kids_ext HN.out.1.W.kids HN.out.2.1.W.kids (fun j r q hj hr hq => hd j r q (by omega) hr hq))
                have HB : Hid (Below w.heap.size w wr) := ch HN.out.2.2.2.2 hb
                clear hd hb
                go_wp2_with fail
                go_ret
                rw [decide_eq_true HE.out]
                exact ⟨rfl, HB.out⟩
          | false =>
            have HX : Hid (n.next ≠ m.next) := by show n.next ≠ m.next; simpa using HRQ.out.symm
            go_enter Try.func10, Try.ntmps10
            go_wp2_with (first | refine wpList_ld26 (by kernel_rfl) _ (by rfl) _ _ _ _ hh a4 (by rfl) ?_ | refine wpList_ld26 (by kernel_rfl) _ (by rfl) _ _ _ _ hh' b4 (by rfl) ?_ | (go_at_call 20; refine KR.mono ?_; rintro e w1 ⟨rfl, hb1⟩; have HB1 : Hid (Below ((w.alloc (.cells (nc n u).toArray 29)).alloc (.cells (nc m t).toArray 29)).heap.size ((w.alloc (.cells (nc n u).toArray 29)).alloc (.cells (nc m t).toArray 29)) w1) := hb1; clear hb1))
            go_ret
            rw [decide_eq_false (fun e => HX.out (by rw [e]))]
            exact ⟨rfl, ch HN.out.2.2.2.2 HB1.out⟩
        · obtain ⟨n1, n2, n3⟩ := HVN.out v
          go_enter Try.func10, Try.ntmps10
          go_wp2_with fail
          go_ret
          rw [decide_eq_false (fun e => v (by rw [e]))]
          exact ⟨rfl, HN.out.2.2.2.2⟩
      · obtain ⟨n1, n2, n3⟩ := HPN.out p
        go_enter Try.func10, Try.ntmps10
        go_wp2_with fail
        go_ret
        rw [decide_eq_false (fun e => p (by rw [e]))]
        exact ⟨rfl, HN.out.2.2.2.2⟩
    · have jf : (nf != mf) = true := by simpa using f
      go_enter Try.func10, Try.ntmps10
      go_wp2_with fail
      go_ret
      rw [decide_eq_false (fun e => f (by rw [HF.out.1, HF.out.2, e]))]
      exact ⟨rfl, HN.out.2.2.2.2⟩
  · have jk : (n.k != m.k) = true := by simpa using k
    go_enter Try.func10, Try.ntmps10
    go_wp2_with fail
    go_ret
    rw [decide_eq_false (fun e => k (by rw [e]))]
    exact ⟨rfl, HN.out.2.2.2.2⟩
end Go.Proofs.Ytpiinkfcaoaffaa
