import Derived.Test.YtpiinkfcaoaffaaCkzy
/-
  hasNoKids, isFilled, endsInValue, leadsOn, mayBe.
-/
namespace Go.Proofs.Ytpiinkfcaoaffaa
open Go.RowKit
/-- whatever stands whole in a node is read as it should be -/
def Nck (n : Nd) : Prop := (n.next.k = 2 → n.next.b.length < 32 → DecOK n.next.b) ∧ ∀ r ∈ n.kids, r.k = 2 → r.b.length < 32 → DecOK r.b
theorem Nin.kid {w : World} {n : Nd} {u : Nv} (h : Nin w n u) {i : Nat} (hi : i < 16) : ∃ r, n.kids[i]? = some r ∧ r ∈ n.kids ∧ r.W ∧ Vb w (u.k i) r.b := by
  have hl : i < n.kids.length := by rw [h.W.kids]; exact hi
  exact ⟨_, List.getElem?_eq_getElem hl, List.getElem_mem hl, h.W.kid _ (List.getElem_mem hl), h.k (List.getElem?_eq_getElem hl)⟩
set_option maxRecDepth 100000 in
set_option maxHeartbeats 1600000 in
theorem hasNoKids_any {w : World} {n : Nd} {u : Nv} (h : Nin w n u) : Calls Try.prog 24 #[.agg (nc n u).toArray] w fun e w' => e = .returned (.bool (noKids n)) ∧ Below w.heap.size w w' := by
  have B1 : Below w.heap.size w (w.alloc (.cells (nc n u).toArray 29)) := below_alloc _ _
  have H0 : Hid (Nin w n u ∧ Nb (w.alloc (.cells (nc n u).toArray 29)) w.heap.size n u ∧ noKids n = n.kids.all isNo) := ⟨h, nb_new h.W w u, rfl⟩
  clear h
  go_enter Try.func24, Try.ntmps24
  go_wp2_with fail
  go_loopg [4] 16 (fun gg k wr => ∃ (i : Nat), i ≤ 16 ∧ gg = 16 - i ∧ k = .int .i64 i ∧ Below (w.alloc (.cells (nc n u).toArray 29)).heap.size (w.alloc (.cells (nc n u).toArray 29)) wr ∧ ∀ j r, j < i → n.kids[j]? = some r → isNo r = true)
  case atStart => exact ⟨0, by omega, rfl, rfl, Below.refl _ _, fun j x hj => by omega⟩
  case round =>
    obtain ⟨i, hi, rfl, rfl, hb, hd⟩ := hrel
    by_cases hin : i < 16
    · have i1 : (i : Int) < 16 := by omega
      obtain ⟨r, hr, hm, hrW, hrb⟩ := H0.out.1.kid hin
      have rg := (H0.out.2.1.keep hb).kid hr
      have hh := hrW.1
      have bw : Below w.heap.size w wr := ch B1 hb
      have K := isNone_any (w := wr) (v := u.k i) hrW (Rel.keep hrb bw)
      have HX : Hid (n.kids[i]? = some r ∧ (∀ j r, j < i → n.kids[j]? = some r → isNo r = true) ∧ Below (w.alloc (.cells (nc n u).toArray 29)).heap.size (w.alloc (.cells (nc n u).toArray 29)) wr) := ⟨hr, hd, hb⟩
      obtain ⟨q, eq⟩ : ∃ q, q = isNo r := ⟨_, rfl⟩
      rw [← eq] at K
      have HQ : Hid (q = isNo r) := eq
      clear hr hm hrW hrb hd eq hb bw
      cases q with
      | true =>
        go_wp2_with (first | refine wpList_ld26 (by kernel_rfl) _ (by rfl) _ _ _ _ hh rg (by rfl) ?_ | (go_at_call 25; refine K.mono ?_; rintro e w1 ⟨rfl, hb1⟩; have HB1 : Hid (Below (w.alloc (.cells (nc n u).toArray 29)).heap.size (w.alloc (.cells (nc n u).toArray 29)) w1) := ch HX.out.2.2 hb1; clear hb1))
        go_roundg (16 - (i + 1))
        case measure => omega
        case rel =>
          refine ⟨i + 1, hin, rfl, by go_num, HB1.out, fun j y hj hy => ?_⟩
          by_cases e : j = i
          · subst e
            have := hy.symm.trans HX.out.1
            cases this
            exact HQ.out.symm
          · exact HX.out.2.1 j y (by omega) hy
      | false =>
        go_wp2_with (first | refine wpList_ld26 (by kernel_rfl) _ (by rfl) _ _ _ _ hh rg (by rfl) ?_ | (go_at_call 25; refine K.mono ?_; rintro e w1 ⟨rfl, hb1⟩; have HB1 : Hid (Below (w.alloc (.cells (nc n u).toArray 29)).heap.size (w.alloc (.cells (nc n u).toArray 29)) w1) := ch HX.out.2.2 hb1; clear hb1))
        go_ret
        have : noKids n = false := by
          rw [H0.out.2.2, ← Bool.not_eq_true, List.all_eq_true]
          intro q
          have := q r (List.mem_of_getElem? HX.out.1)
          rw [← HQ.out] at this
          cases this
        rw [this]
        exact ⟨rfl, ch B1 HB1.out⟩
    · have i1 : ¬ (i : Int) < 16 := by omega
      have HE : Hid (noKids n = true) := by
        show noKids n = true
        rw [H0.out.2.2, List.all_eq_true]
        intro r hr
        obtain ⟨j, hj, rfl⟩ := List.getElem_of_mem hr
        exact hd j _ (by have := H0.out.1.W.kids; omega) (List.getElem?_eq_getElem hj)
      have HB : Hid (Below w.heap.size w wr) := ch B1 hb
      clear hd hb
      go_wp2_with fail
      go_ret
      rw [HE.out]
      exact ⟨rfl, HB.out⟩
theorem things_step {l : List Rf} {i : Nat} {r : Rf} (h : l[i]? = some r) : things (l.take (i + 1)) = things (l.take i) + (if r.k = 0 then 0 else 1) := by
  unfold things
  rw [List.take_add_one, h, List.filter_append, List.length_append]
  congr 1
  simp only [Option.toList_some, List.filter_cons, List.filter_nil]
  by_cases q : r.k = 0
  · simp [q]
  · simp [q]
theorem things_le (l : List Rf) : things l ≤ l.length := List.length_filter_le _ _
set_option maxRecDepth 100000 in
set_option maxHeartbeats 1600000 in
theorem isFilled_any {w : World} {n : Nd} {u : Nv} (h : Nin w n u) (hD : Nck n) : Calls Try.prog 26 #[.agg (nc n u).toArray] w fun e w' => e = .returned (.bool (isFd KD n)) ∧ Below w.heap.size w w' := by
  have B1 : Below w.heap.size w (w.alloc (.cells (nc n u).toArray 29)) := below_alloc _ _
  have HI : Hid (isFd KD n = (n.kids.all (isRf KD) && (if n.full then decide (1 ≤ things n.kids) && isV n.val else decide (2 ≤ things n.kids) && decide (n.val.length = 0)))) := rfl
  have H0 : Hid (Nin w n u ∧ Nb (w.alloc (.cells (nc n u).toArray 29)) w.heap.size n u ∧ Nck n) := ⟨h, nb_new h.W w u, hD⟩
  clear h hD
  go_enter Try.func26, Try.ntmps26
  go_wp2_with fail
  go_loopg [3, 5] 16 (fun gg t k wr => ∃ (i : Nat), i ≤ 16 ∧ gg = 16 - i ∧ t = .int .i64 (things (n.kids.take i) : Nat) ∧ k = .int .i64 i ∧ Below (w.alloc (.cells (nc n u).toArray 29)).heap.size (w.alloc (.cells (nc n u).toArray 29)) wr ∧ ∀ j r, j < i → n.kids[j]? = some r → isRf KD r = true)
  case atStart => exact ⟨0, by omega, rfl, rfl, rfl, Below.refl _ _, fun j x hj => by omega⟩
  case round =>
    obtain ⟨i, hi, rfl, rfl, rfl, hb, hd⟩ := hrel
    obtain ⟨t, et⟩ : ∃ t, t = things (n.kids.take i) := ⟨_, rfl⟩
    have ht : t ≤ 16 := by
      rw [et]
      have h1 := things_le (n.kids.take i)
      have h2 := H0.out.1.W.kids
      rw [List.length_take] at h1
      omega
    rw [← et]
    have HT : Hid (t = things (n.kids.take i)) := et
    clear et
    by_cases hin : i < 16
    · have i1 : (i : Int) < 16 := by omega
      obtain ⟨r, hr, hm, hrW, hrb⟩ := H0.out.1.kid hin
      have rg := (H0.out.2.1.keep hb).kid hr
      have hh := hrW.1
      have bw : Below w.heap.size w wr := ch B1 hb
      have K := isRef_any (w := wr) (v := u.k i) ⟨hrW, Rel.keep hrb bw, H0.out.2.2.2 r hm⟩
      have HX : Hid (n.kids[i]? = some r ∧ (∀ j r, j < i → n.kids[j]? = some r → isRf KD r = true) ∧ Below (w.alloc (.cells (nc n u).toArray 29)).heap.size (w.alloc (.cells (nc n u).toArray 29)) wr) := ⟨hr, hd, hb⟩
      obtain ⟨q, eq⟩ : ∃ q, q = isRf KD r := ⟨_, rfl⟩
      rw [← eq] at K
      have HQ : Hid (q = isRf KD r) := eq
      have HR : Hid (∀ {i : Nat} {r : Rf} {w1 : World}, Below wr.heap.size wr w1 → n.kids[i]? = some r → w1.cell? ⟨w.heap.size, 38 + i * 34, none⟩ = some (.int .i64 r.k)) := fun {i r w1} b1 hr => (rng_ref (H0.out.1.W.kid r (List.mem_of_getElem? hr)).1 (((H0.out.2.1.keep hb).keep b1).kid hr)).1
      clear hr hm hrW hrb hd eq hb bw
      cases q with
      | true =>
        by_cases k0 : r.k = 0
        · go_wp2_with (first | refine wpList_ld26 (by kernel_rfl) _ (by rfl) _ _ _ _ hh rg (by rfl) ?_ | (go_at_call 41; refine K.mono ?_; rintro e w1 ⟨rfl, hb1⟩; have HB1 : Hid (Below (w.alloc (.cells (nc n u).toArray 29)).heap.size (w.alloc (.cells (nc n u).toArray 29)) w1) := ch HX.out.2.2 hb1; have ck := HR.out hb1 HX.out.1; rw [k0] at ck; clear hb1))
          go_roundg (16 - (i + 1))
          case measure => omega
          case rel =>
            refine ⟨i + 1, hin, rfl, by rw [things_step HX.out.1, if_pos k0, HT.out]; rfl, by go_num, HB1.out, fun j y hj hy => ?_⟩
            by_cases e : j = i
            · subst e
              have := hy.symm.trans HX.out.1
              cases this
              exact HQ.out.symm
            · exact HX.out.2.1 j y (by omega) hy
        · have k0c : (r.k != 0) = true := by simpa using k0
          go_wp2_with (first | refine wpList_ld26 (by kernel_rfl) _ (by rfl) _ _ _ _ hh rg (by rfl) ?_ | (go_at_call 41; refine K.mono ?_; rintro e w1 ⟨rfl, hb1⟩; have HB1 : Hid (Below (w.alloc (.cells (nc n u).toArray 29)).heap.size (w.alloc (.cells (nc n u).toArray 29)) w1) := ch HX.out.2.2 hb1; have ck := HR.out hb1 HX.out.1; clear hb1))
          go_roundg (16 - (i + 1))
          case measure => omega
          case rel =>
            refine ⟨i + 1, hin, rfl, by rw [things_step HX.out.1, if_neg k0, ← HT.out]; go_num, by go_num, HB1.out, fun j y hj hy => ?_⟩
            by_cases e : j = i
            · subst e
              have := hy.symm.trans HX.out.1
              cases this
              exact HQ.out.symm
            · exact HX.out.2.1 j y (by omega) hy
      | false =>
        go_wp2_with (first | refine wpList_ld26 (by kernel_rfl) _ (by rfl) _ _ _ _ hh rg (by rfl) ?_ | (go_at_call 41; refine K.mono ?_; rintro e w1 ⟨rfl, hb1⟩; have HB1 : Hid (Below (w.alloc (.cells (nc n u).toArray 29)).heap.size (w.alloc (.cells (nc n u).toArray 29)) w1) := ch HX.out.2.2 hb1; clear hb1))
        go_ret
        have : n.kids.all (isRf KD) = false := by
          rw [← Bool.not_eq_true, List.all_eq_true]
          intro q
          have := q r (List.mem_of_getElem? HX.out.1)
          rw [← HQ.out] at this
          cases this
        rw [HI.out, this]
        exact ⟨rfl, ch B1 HB1.out⟩
    · have i1 : ¬ (i : Int) < 16 := by omega
      obtain rfl : i = 16 := by omega
      have HE : Hid (n.kids.all (isRf KD) = true ∧ t = things n.kids) := by
        refine ⟨?_, ?_⟩
        · rw [List.all_eq_true]
          intro r hr
          obtain ⟨j, hj, rfl⟩ := List.getElem_of_mem hr
          exact hd j _ (by have := H0.out.1.W.kids; omega) (List.getElem?_eq_getElem hj)
        · rw [HT.out, List.take_of_length_le (by have := H0.out.1.W.kids; omega)]
      have HB : Hid (Below w.heap.size w wr) := ch B1 hb
      have cf := (H0.out.2.1.keep hb).f
      have cv := (H0.out.2.1.keep hb).v
      have hv := Rel.keep H0.out.1.v HB.out
      have K := isValue_any hv
      obtain ⟨a, b, off, c, e, -, -, -, hl⟩ := hv
      rw [e] at cv K
      obtain ⟨m, em⟩ : ∃ m, m = n.val.length := ⟨_, rfl⟩
      rw [← em] at hl cv K
      have HM : Hid (m = n.val.length) := em
      obtain ⟨q, eq⟩ : ∃ q, q = isV n.val := ⟨_, rfl⟩
      rw [← eq] at K
      have HQ : Hid (q = isV n.val) := eq
      obtain ⟨fl, ef⟩ : ∃ fl, fl = n.full := ⟨_, rfl⟩
      rw [← ef] at cf
      have HF : Hid (fl = n.full) := ef
      clear hd hb e em eq ef
      cases fl with
      | false =>
        by_cases t2 : 2 ≤ t
        · have j2 : (2 : Int) ≤ t := by omega
          by_cases m0 : m = 0
          · subst m0
            go_wp2_with fail
            go_ret
            rw [HI.out, HE.out.1, ← HE.out.2, ← HF.out, ← HM.out, decide_eq_true t2]
            exact ⟨rfl, HB.out⟩
          · have j0 : ((m : Int) == 0) = false := by simp; omega
            have j0b : ¬ (m : Int) = 0 := by omega
            go_wp2_with fail
            go_ret
            rw [HI.out, HE.out.1, ← HE.out.2, ← HF.out, ← HM.out, decide_eq_true t2, decide_eq_false m0]
            exact ⟨rfl, HB.out⟩
        · have j2 : ¬ (2 : Int) ≤ t := by omega
          go_wp2_with fail
          go_ret
          rw [HI.out, HE.out.1, ← HE.out.2, ← HF.out, decide_eq_false t2]
          exact ⟨rfl, HB.out⟩
      | true =>
        by_cases t2 : 1 ≤ t
        · have j2 : (1 : Int) ≤ t := by omega
          go_wp2_with (go_at_call 40; refine K.mono ?_; rintro e w1 ⟨rfl, rfl⟩)
          go_ret
          rw [HI.out, HE.out.1, ← HE.out.2, ← HF.out, ← HQ.out, decide_eq_true t2]
          exact ⟨rfl, HB.out⟩
        · have j2 : ¬ (1 : Int) ≤ t := by omega
          go_wp2_with fail
          go_ret
          rw [HI.out, HE.out.1, ← HE.out.2, ← HF.out, decide_eq_false t2]
          exact ⟨rfl, HB.out⟩
set_option maxRecDepth 100000 in
set_option maxHeartbeats 1600000 in
theorem ends_any {w : World} {n : Nd} {u : Nv} (h : Nin w n u) : Calls Try.prog 22 #[.agg (nc n u).toArray] w fun e w' => e = .returned (.bool (ends n)) ∧ Below w.heap.size w w' := by
  have B1 : Below w.heap.size w (w.alloc (.cells (nc n u).toArray 29)) := below_alloc _ _
  have nb := nb_new h.W w u
  have cv := nb.v
  have cx := nb.x
  have hh := h.W.next.1
  have KV := isValue_any (Rel.keep h.v B1)
  have KN := isNone_any h.W.next (Rel.keep h.x B1)
  have HI : Hid (ends n = (isV n.val && isNo n.next)) := rfl
  obtain ⟨q, eq⟩ : ∃ q, q = isV n.val := ⟨_, rfl⟩
  obtain ⟨q2, eq2⟩ : ∃ q, q = isNo n.next := ⟨_, rfl⟩
  rw [← eq] at KV
  rw [← eq2] at KN
  have HQ : Hid (q = isV n.val ∧ q2 = isNo n.next) := ⟨eq, eq2⟩
  clear nb h eq eq2
  cases q with
  | true =>
    go_enter Try.func22, Try.ntmps22
    go_wp2_with (first | (go_at_call 40; refine KV.mono ?_; rintro e w1 ⟨rfl, rfl⟩) | refine wpList_ld26 (by kernel_rfl) _ (by rfl) _ _ _ _ hh cx (by rfl) ?_ | (go_at_call 25; refine KN.mono ?_; rintro e w1 ⟨rfl, hb1⟩; have HB1 : Hid (Below w.heap.size w w1) := ch B1 hb1; clear hb1))
    go_ret
    rw [HI.out, ← HQ.out.1, ← HQ.out.2]
    exact ⟨rfl, HB1.out⟩
  | false =>
    go_enter Try.func22, Try.ntmps22
    go_wp2_with (go_at_call 40; refine KV.mono ?_; rintro e w1 ⟨rfl, rfl⟩)
    go_ret
    rw [HI.out, ← HQ.out.1]
    exact ⟨rfl, B1⟩
set_option maxRecDepth 100000 in
set_option maxHeartbeats 1600000 in
theorem leads_any {w : World} {n : Nd} {u : Nv} (h : Nin w n u) (hD : Nck n) : Calls Try.prog 21 #[.agg (nc n u).toArray] w fun e w' => e = .returned (.bool (leads KD n)) ∧ Below w.heap.size w w' := by
  have B1 : Below w.heap.size w (w.alloc (.cells (nc n u).toArray 29)) := below_alloc _ _
  have nb := nb_new h.W w u
  have cp := nb.p
  have cv := nb.v
  have cx := nb.x
  have hh := h.W.next.1
  have KN := isNext_any ⟨h.W.next, Rel.keep h.x B1, hD.1⟩
  have HI : Hid (leads KD n = (decide (0 < n.path.length) && (decide (n.val.length = 0) && isNx KD n.next))) := rfl
  obtain ⟨a, b, off, c, e, -, -, -, hl⟩ := h.p
  rw [e] at cp
  obtain ⟨a', b', off', c', e', -, -, -, hl'⟩ := h.v
  rw [e'] at cv
  obtain ⟨m, em⟩ : ∃ m, m = n.path.length := ⟨_, rfl⟩
  obtain ⟨l, el⟩ : ∃ m, m = n.val.length := ⟨_, rfl⟩
  obtain ⟨q2, eq2⟩ : ∃ q, q = isNx KD n.next := ⟨_, rfl⟩
  rw [← eq2] at KN
  rw [← em] at cp hl
  rw [← el] at cv hl'
  have HQ : Hid (m = n.path.length ∧ l = n.val.length ∧ q2 = isNx KD n.next) := ⟨em, el, eq2⟩
  clear nb h eq2 em el e e' hD
  by_cases m0 : 0 < m
  · have j0 : (0 : Int) < m := by omega
    by_cases l0 : l = 0
    · subst l0
      go_enter Try.func21, Try.ntmps21
      go_wp2_with (first | refine wpList_ld26 (by kernel_rfl) _ (by rfl) _ _ _ _ hh cx (by rfl) ?_ | (go_at_call 39; refine KN.mono ?_; rintro e w1 ⟨rfl, hb1⟩; have HB1 : Hid (Below w.heap.size w w1) := ch B1 hb1; clear hb1))
      go_ret
      rw [HI.out, ← HQ.out.1, ← HQ.out.2.1, ← HQ.out.2.2, decide_eq_true m0]
      exact ⟨rfl, HB1.out⟩
    · have j1 : ((l : Int) == 0) = false := by simp; omega
      have j1b : ¬ (l : Int) = 0 := by omega
      go_enter Try.func21, Try.ntmps21
      go_wp2_with fail
      go_ret
      rw [HI.out, ← HQ.out.1, ← HQ.out.2.1, decide_eq_true m0, decide_eq_false l0]
      exact ⟨rfl, B1⟩
  · have j0 : ¬ (0 : Int) < m := by omega
    go_enter Try.func21, Try.ntmps21
    go_wp2_with fail
    go_ret
    rw [HI.out, ← HQ.out.1, decide_eq_false m0]
    exact ⟨rfl, B1⟩
end Go.Proofs.Ytpiinkfcaoaffaa
