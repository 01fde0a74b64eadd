import Derived.Test.YtadcbhjmbgenbaaFc0e
import Derived.Test.YtadcbhjmbgenbaaFc2e
import Derived.Test.YtadcbhjmbgenbaaFc3e
import Derived.Test.YtadcbhjmbgenbaaFie
import Derived.Test.YtadcbhjmbgenbaaLnoe
/-
  cairnref07: Check (leaf). (Written by gen_fc.py.)
-/
namespace Go.Proofs.Ytadcbhjmbgenbaa
open Go.RowKit

set_option maxRecDepth 100000 in
set_option maxHeartbeats 12800000 in
theorem rcheck_1 {w : World} {n : Nd} {u : Nv} (h : Nin w n u) (hD : Nrd n) (hk : n.k = 1) : Calls Try.prog 32 #[.agg (nc n u).toArray] w fun e w' => e = .returned (.int .i64 ((eE n : Nat) : Int)) ∧ Below w.heap.size w w' := by
  have B1 : Below w.heap.size w (w.alloc (.cells (nc n u).toArray 29)) := below_alloc _ _
  have H0 : Hid (Nin w n u ∧ Nb (w.alloc (.cells (nc n u).toArray 29)) w.heap.size n u ∧ Nrd n) := ⟨h, nb_new h.W w u, hD⟩
  have HK : Hid (n.k = 1) := hk
  clear hk
  clear h hD
  go_enter Try.func32, Try.ntmps32
  go_wp2_with fail
  go_loopg [3, 4] 16 (fun gg t k wr => ∃ (i : Nat), i ≤ 16 ∧ gg = 16 - i ∧ t = .int .i64 (things (n.kids.take i) : Nat) ∧ k = .int .i64 i ∧ Below (w.alloc (.cells (nc n u).toArray 29)).heap.size (w.alloc (.cells (nc n u).toArray 29)) wr ∧ ∀ j r, j < i → n.kids[j]? = some r → isRf KD r = true)
  case atStart => exact ⟨0, by omega, rfl, rfl, rfl, Below.refl _ _, fun j x hj => by omega⟩
  case round =>
    obtain ⟨i, hi, rfl, rfl, rfl, hb, hd⟩ := hrel
    obtain ⟨t, et⟩ : ∃ t, t = things (n.kids.take i) := ⟨_, rfl⟩
    have ht : t ≤ 16 := by
      rw [et]
      have h1 := things_le (n.kids.take i)
      have h2 := H0.out.1.W.kids
      rw [List.length_take] at h1
      omega
    rw [← et]
    have HT : Hid (t = things (n.kids.take i)) := et
    clear et
    by_cases hin : i < 16
    · have i1 : (i : Int) < 16 := by omega
      obtain ⟨r, hr, hm, hrW, hrb⟩ := H0.out.1.kid hin
      have rg := (H0.out.2.1.keep hb).kid hr
      have hh := hrW.1
      have bw : Below w.heap.size w wr := ch B1 hb
      have K := rref_any (w := wr) (v := u.k i) hrW (Rel.keep hrb bw) (H0.out.2.2.2 r hm)
      have HX : Hid (n.kids[i]? = some r ∧ (∀ j r, j < i → n.kids[j]? = some r → isRf KD r = true) ∧ Below (w.alloc (.cells (nc n u).toArray 29)).heap.size (w.alloc (.cells (nc n u).toArray 29)) wr) := ⟨hr, hd, hb⟩
      obtain ⟨q, eq⟩ : ∃ q, q = isRf KD r := ⟨_, rfl⟩
      obtain ⟨kk, ekk⟩ : ∃ kk, kk = rkd r := ⟨_, rfl⟩
      rw [← eq, ← ekk] at K
      have HQ : Hid (q = isRf KD r) := eq
      have HR : Hid (∀ {i : Nat} {r : Rf} {w1 : World}, Below wr.heap.size wr w1 → n.kids[i]? = some r → w1.cell? ⟨w.heap.size, 38 + i * 34, none⟩ = some (.int .i64 r.k)) := fun {i r w1} b1 hr => (rng_ref (H0.out.1.W.kid r (List.mem_of_getElem? hr)).1 (((H0.out.2.1.keep hb).keep b1).kid hr)).1
      clear hr hm hrW hrb hd eq hb bw ekk
      cases q with
      | true =>
        by_cases k0 : r.k = 0
        · go_wp2_with (first | refine wpList_ld26 (by kernel_rfl) _ (by rfl) _ _ _ _ hh rg (by rfl) ?_ | (go_at_call 60; refine K.mono ?_; rintro e w1 ⟨rfl, hb1⟩; have HB1 : Hid (Below (w.alloc (.cells (nc n u).toArray 29)).heap.size (w.alloc (.cells (nc n u).toArray 29)) w1) := ch HX.out.2.2 hb1; have ck := HR.out hb1 HX.out.1; rw [k0] at ck; clear hb1))
          go_roundg (16 - (i + 1))
          case measure => omega
          case rel =>
            refine ⟨i + 1, hin, rfl, by rw [things_step HX.out.1, if_pos k0, HT.out]; rfl, by go_num, HB1.out, fun j y hj hy => ?_⟩
            by_cases e : j = i
            · subst e
              have := hy.symm.trans HX.out.1
              cases this
              exact HQ.out.symm
            · exact HX.out.2.1 j y (by omega) hy
        · have k0c : (r.k != 0) = true := by simpa using k0
          go_wp2_with (first | refine wpList_ld26 (by kernel_rfl) _ (by rfl) _ _ _ _ hh rg (by rfl) ?_ | (go_at_call 60; refine K.mono ?_; rintro e w1 ⟨rfl, hb1⟩; have HB1 : Hid (Below (w.alloc (.cells (nc n u).toArray 29)).heap.size (w.alloc (.cells (nc n u).toArray 29)) w1) := ch HX.out.2.2 hb1; have ck := HR.out hb1 HX.out.1; clear hb1))
          go_roundg (16 - (i + 1))
          case measure => omega
          case rel =>
            refine ⟨i + 1, hin, rfl, by rw [things_step HX.out.1, if_neg k0, ← HT.out]; go_num, by go_num, HB1.out, fun j y hj hy => ?_⟩
            by_cases e : j = i
            · subst e
              have := hy.symm.trans HX.out.1
              cases this
              exact HQ.out.symm
            · exact HX.out.2.1 j y (by omega) hy
      | false =>
        have HE : Hid (eE n = 70) := eE_not (by
          rw [← Bool.not_eq_true, List.all_eq_true]
          intro q
          have := q r (List.mem_of_getElem? HX.out.1)
          rw [← HQ.out] at this
          cases this)
        go_wp2_with (first | refine wpList_ld26 (by kernel_rfl) _ (by rfl) _ _ _ _ hh rg (by rfl) ?_ | (go_at_call 60; refine K.mono ?_; rintro e w1 ⟨rfl, hb1⟩; have HB1 : Hid (Below (w.alloc (.cells (nc n u).toArray 29)).heap.size (w.alloc (.cells (nc n u).toArray 29)) w1) := ch HX.out.2.2 hb1; clear hb1))
        go_ret
        rw [HE.out]
        exact ⟨rfl, ch B1 HB1.out⟩
    · have i1 : ¬ (i : Int) < 16 := by omega
      obtain rfl : i = 16 := by omega
      have hall : n.kids.all (isRf KD) = true := by
        rw [List.all_eq_true]
        intro r hr
        obtain ⟨j, hj, rfl⟩ := List.getElem_of_mem hr
        exact hd j _ (by have := H0.out.1.W.kids; omega) (List.getElem?_eq_getElem hj)
      have HE0 : eE n = if chk n then 0 else 70 := eE_of H0.out.1.W hall
      have htn : t = things n.kids := by rw [HT.out, List.take_of_length_le (by rw [H0.out.1.W.kids]; exact Nat.le_refl _)]
      have HTN : Hid (t = things n.kids ∧ Below w.heap.size w wr) := ⟨htn, ch B1 hb⟩
      have nbr := H0.out.2.1.keep hb
      have nin := H0.out.1.keep (ch B1 hb)
      have hW := H0.out.1.W
      obtain ⟨c0, c1, c2, c3, rgx, -, -⟩ := nbr
      obtain ⟨x0, x1, x2⟩ := rng_ref hW.next.1 rgx
      have hhn := hW.next.1
      have Kp := rpath_any nin.p 0
      have Kv := rvalue_any nin.v
      have Ke := rempty_any hW.next nin.x
      have HE : eE n = if pthF n.path 0 && (isV n.val && (decide (thg n = 0) && isNo n.next)) then 0 else 70 := by rw [HE0]; unfold chk; rw [if_pos HK.out]
      rw [HK.out] at c0
      obtain ⟨pb, epb⟩ : ∃ b, b = pthF n.path 0 := ⟨_, rfl⟩
      obtain ⟨vb, evb⟩ : ∃ b, b = isV n.val := ⟨_, rfl⟩
      obtain ⟨no, eno⟩ : ∃ b, b = isNo n.next := ⟨_, rfl⟩
      rw [← epb] at Kp HE
      rw [← evb] at Kv HE
      rw [← eno] at Ke HE
      unfold thg at HE
      rw [← HTN.out.1] at HE
      obtain ⟨f, ef⟩ : ∃ f, f = n.full := ⟨_, rfl⟩
      rw [← ef] at c3 HE
      clear epb evb eno ef hall HE0 htn nin hd hb hW hin hi
      have HE : Hid (eE n = if pb && (vb && (decide (t + (if f then 1 else 0) = 0) && no)) then 0 else 70) := HE
      cases f with
      | true =>
        have z1 : ¬ ((t : Int) + 1 = 0) := by omega
        have z1b : (((t : Int) + 1) == 0) = false := by simpa using z1
        cases pb with
        | false =>
          go_wp2_with (first | refine wpList_ld26 (by kernel_rfl) _ (by rfl) _ _ _ _ hhn rgx (by rfl) ?_ | (go_at_call 61; refine Kp.mono ?_; rintro e w1 ⟨rfl, rfl⟩; clear Kp) | (go_at_call 62; refine Kv.mono ?_; rintro e w1 ⟨rfl, rfl⟩; clear Kv) | (go_at_call 63; refine Ke.mono ?_; rintro e w2 ⟨rfl, b2⟩; have HB2 : Hid (Below w.heap.size w w2) := ch HTN.out.2 b2; clear b2 Ke))
          go_ret
          rw [HE.out]
          exact ⟨rfl, HTN.out.2⟩
        | true =>
          cases vb with
          | false =>
            go_wp2_with (first | refine wpList_ld26 (by kernel_rfl) _ (by rfl) _ _ _ _ hhn rgx (by rfl) ?_ | (go_at_call 61; refine Kp.mono ?_; rintro e w1 ⟨rfl, rfl⟩; clear Kp) | (go_at_call 62; refine Kv.mono ?_; rintro e w1 ⟨rfl, rfl⟩; clear Kv) | (go_at_call 63; refine Ke.mono ?_; rintro e w2 ⟨rfl, b2⟩; have HB2 : Hid (Below w.heap.size w w2) := ch HTN.out.2 b2; clear b2 Ke))
            go_ret
            rw [HE.out]
            exact ⟨rfl, HTN.out.2⟩
          | true =>
            go_wp2_with (first | refine wpList_ld26 (by kernel_rfl) _ (by rfl) _ _ _ _ hhn rgx (by rfl) ?_ | (go_at_call 61; refine Kp.mono ?_; rintro e w1 ⟨rfl, rfl⟩; clear Kp) | (go_at_call 62; refine Kv.mono ?_; rintro e w1 ⟨rfl, rfl⟩; clear Kv) | (go_at_call 63; refine Ke.mono ?_; rintro e w2 ⟨rfl, b2⟩; have HB2 : Hid (Below w.heap.size w w2) := ch HTN.out.2 b2; clear b2 Ke))
            go_ret
            rw [HE.out]
            exact ⟨by simp, HTN.out.2⟩
      | false =>
        cases pb with
        | false =>
          go_wp2_with (first | refine wpList_ld26 (by kernel_rfl) _ (by rfl) _ _ _ _ hhn rgx (by rfl) ?_ | (go_at_call 61; refine Kp.mono ?_; rintro e w1 ⟨rfl, rfl⟩; clear Kp) | (go_at_call 62; refine Kv.mono ?_; rintro e w1 ⟨rfl, rfl⟩; clear Kv) | (go_at_call 63; refine Ke.mono ?_; rintro e w2 ⟨rfl, b2⟩; have HB2 : Hid (Below w.heap.size w w2) := ch HTN.out.2 b2; clear b2 Ke))
          go_ret
          rw [HE.out]
          exact ⟨rfl, HTN.out.2⟩
        | true =>
          cases vb with
          | false =>
            go_wp2_with (first | refine wpList_ld26 (by kernel_rfl) _ (by rfl) _ _ _ _ hhn rgx (by rfl) ?_ | (go_at_call 61; refine Kp.mono ?_; rintro e w1 ⟨rfl, rfl⟩; clear Kp) | (go_at_call 62; refine Kv.mono ?_; rintro e w1 ⟨rfl, rfl⟩; clear Kv) | (go_at_call 63; refine Ke.mono ?_; rintro e w2 ⟨rfl, b2⟩; have HB2 : Hid (Below w.heap.size w w2) := ch HTN.out.2 b2; clear b2 Ke))
            go_ret
            rw [HE.out]
            exact ⟨rfl, HTN.out.2⟩
          | true =>
            by_cases t0 : t = 0
            · subst t0
              cases no with
              | false =>
                go_wp2_with (first | refine wpList_ld26 (by kernel_rfl) _ (by rfl) _ _ _ _ hhn rgx (by rfl) ?_ | (go_at_call 61; refine Kp.mono ?_; rintro e w1 ⟨rfl, rfl⟩; clear Kp) | (go_at_call 62; refine Kv.mono ?_; rintro e w1 ⟨rfl, rfl⟩; clear Kv) | (go_at_call 63; refine Ke.mono ?_; rintro e w2 ⟨rfl, b2⟩; have HB2 : Hid (Below w.heap.size w w2) := ch HTN.out.2 b2; clear b2 Ke))
                go_ret
                rw [HE.out]
                exact ⟨by simp, HB2.out⟩
              | true =>
                go_wp2_with (first | refine wpList_ld26 (by kernel_rfl) _ (by rfl) _ _ _ _ hhn rgx (by rfl) ?_ | (go_at_call 61; refine Kp.mono ?_; rintro e w1 ⟨rfl, rfl⟩; clear Kp) | (go_at_call 62; refine Kv.mono ?_; rintro e w1 ⟨rfl, rfl⟩; clear Kv) | (go_at_call 63; refine Ke.mono ?_; rintro e w2 ⟨rfl, b2⟩; have HB2 : Hid (Below w.heap.size w w2) := ch HTN.out.2 b2; clear b2 Ke))
                go_ret
                rw [HE.out]
                exact ⟨by simp, HB2.out⟩
            · have z1 : ¬ (t : Int) = 0 := by omega
              have z1b : ((t : Int) == 0) = false := by simpa using z1
              go_wp2_with (first | refine wpList_ld26 (by kernel_rfl) _ (by rfl) _ _ _ _ hhn rgx (by rfl) ?_ | (go_at_call 61; refine Kp.mono ?_; rintro e w1 ⟨rfl, rfl⟩; clear Kp) | (go_at_call 62; refine Kv.mono ?_; rintro e w1 ⟨rfl, rfl⟩; clear Kv) | (go_at_call 63; refine Ke.mono ?_; rintro e w2 ⟨rfl, b2⟩; have HB2 : Hid (Below w.heap.size w w2) := ch HTN.out.2 b2; clear b2 Ke))
              go_ret
              rw [HE.out]
              exact ⟨by simp [t0], HTN.out.2⟩
end Go.Proofs.Ytadcbhjmbgenbaa

/-
  cairnref07: Check.
-/
namespace Go.Proofs.Ytadcbhjmbgenbaa
open Go.RowKit

theorem rcheck_any {w : World} {n : Nd} {u : Nv} (h : Nin w n u) (hD : Nrd n) : Calls Try.prog 32 #[.agg (nc n u).toArray] w fun e w' => e = .returned (.int .i64 ((eE n : Nat) : Int)) ∧ Below w.heap.size w w' := by
  by_cases k1 : n.k = 1
  · exact rcheck_1 h hD k1
  · by_cases k2 : n.k = 2
    · exact rcheck_2 h hD k2
    · by_cases k3 : n.k = 3
      · exact rcheck_3 h hD k3
      · exact rcheck_0 h hD k1 k2 k3
end Go.Proofs.Ytadcbhjmbgenbaa

/-
  cairnref07's Encode: what stands in a node's list. No program.
-/
namespace Go.Proofs.Ytadcbhjmbgenbaa

def bdN (n : Nd) : List Nat :=
  if n.k = 1 then sF (pkR true n.path) ++ sF n.val else if n.k = 2 then sF (pkR false n.path) ++ itF n.next else n.kids.flatMap itF ++ sF n.val
theorem itF_form {r : Rf} (hw : r.W) (h : isRf KD r = true ∨ isNx KD r = true) : form (rIt r) = itF r := by
  by_cases k2 : r.k = 2
  · have hb : r.h = z32 ∧ KD r.b ≠ 0 := by
      rcases h with h | h
      · unfold isRf at h
        rw [if_neg (by omega), if_neg (by omega), if_pos k2] at h
        simpa using h
      · unfold isNx at h
        rw [if_pos k2] at h
        simp at h
        exact ⟨h.1, by rw [h.2]; decide⟩
    rw [(ri_node hw k2 hb.1 hb.2).2.1]
    unfold itF
    rw [if_pos k2]
  · unfold rIt itF sF
    rw [if_neg k2, if_neg k2]
    split <;> rfl
theorem forms_kids {l : List Rf} (h : ∀ r ∈ l, form (rIt r) = itF r) : forms (l.map rIt) = l.flatMap itF := by
  induction l with
  | nil => rw [List.map_nil, forms_nil]; rfl
  | cons a t ih =>
    rw [List.map_cons, forms_cons, h a (by simp), ih (fun r hr => h r (by simp [hr])), List.flatMap_cons]
/-- what may be said of a node that may be -/
theorem may_facts {n : Nd} (hw : n.W) (hm : mayN KD n = true) : encN n = hdr 192 (bdN n).length ++ bdN n ∧ (bdN n).length ≤ 1024 ∧ (∀ x ∈ bdN n, x < 256) ∧ (n.k = 1 ∨ n.k = 2 → IsP n.path) ∧ (n.k = 1 ∨ n.k = 2 ∨ n.k = 3) ∧ n.val.length ≤ 256 := by
  have ni := ni_may hw hm
  have key : ∀ xs : List It, nIt n = .mk true [] xs → forms xs = bdN n → encN n = hdr 192 (bdN n).length ++ bdN n ∧ (bdN n).length ≤ 1024 ∧ (∀ x ∈ bdN n, x < 256) := fun xs e1 e2 => by
    have e : encN n = hdr 192 (bdN n).length ++ bdN n := by unfold encN; rw [e1, form_mk, if_pos rfl, e2]
    have hl := ni.len
    have hb := ni.byt
    rw [show form (nIt n) = encN n from rfl, e, List.length_append] at hl
    rw [show form (nIt n) = encN n from rfl, e] at hb
    exact ⟨e, by omega, fun x hx => hb x (List.mem_append.2 (Or.inr hx))⟩
  unfold mayN at hm
  split at hm
  · rename_i hk
    simp only [Bool.and_eq_true, Bool.not_eq_true', decide_eq_true_eq] at hm
    obtain ⟨he, hp, hf, hn⟩ := hm
    unfold ends at he
    rw [Bool.and_eq_true] at he
    obtain ⟨a1, a2, a3⟩ := key [.mk false (pkR true n.path) [], .mk false n.val []] (by unfold nIt; rw [if_pos hk]) (by rw [forms_cons, forms_cons, forms_nil, List.append_nil]; unfold bdN; rw [if_pos hk]; rfl)
    exact ⟨a1, a2, a3, fun _ => hp, Or.inl hk, (isV_len he.1).2⟩
  · split at hm
    · rename_i hk
      simp only [Bool.and_eq_true, Bool.not_eq_true', decide_eq_true_eq] at hm
      obtain ⟨he, hp, hf, hn⟩ := hm
      unfold leads at he
      simp only [Bool.and_eq_true, decide_eq_true_eq] at he
      obtain ⟨hp0, hv0, hx⟩ := he
      obtain ⟨a1, a2, a3⟩ := key [.mk false (pkR false n.path) [], rIt n.next] (by unfold nIt; rw [if_neg (by omega), if_pos hk]) (by rw [forms_cons, forms_cons, forms_nil, List.append_nil, itF_form hw.next (Or.inr hx)]; unfold bdN; rw [if_neg (by omega), if_pos hk]; rfl)
      exact ⟨a1, a2, a3, fun _ => hp, Or.inr (Or.inl hk), by omega⟩
    · split at hm
      · rename_i hk
        simp only [Bool.and_eq_true, decide_eq_true_eq] at hm
        obtain ⟨hp, hno, hfd⟩ := hm
        unfold isFd at hfd
        rw [Bool.and_eq_true, List.all_eq_true] at hfd
        obtain ⟨hkr, hfd⟩ := hfd
        have hv2 : n.val.length ≤ 256 := by
          split at hfd
          · rw [Bool.and_eq_true] at hfd
            exact (isV_len hfd.2).2
          · simp at hfd
            rw [hfd.2]
            simp
        obtain ⟨a1, a2, a3⟩ := key (n.kids.map rIt ++ [.mk false n.val []]) (by unfold nIt; rw [if_neg (by omega), if_neg (by omega)]) (by
          rw [forms_app, forms_cons, forms_nil, List.append_nil, forms_kids (fun r hr => itF_form (hw.kid r hr) (Or.inl (hkr r hr)))]
          unfold bdN
          rw [if_neg (by omega), if_neg (by omega)]
          rfl)
        exact ⟨a1, a2, a3, fun q => by omega, Or.inr (Or.inr hk), hv2⟩
      · cases hm
end Go.Proofs.Ytadcbhjmbgenbaa
