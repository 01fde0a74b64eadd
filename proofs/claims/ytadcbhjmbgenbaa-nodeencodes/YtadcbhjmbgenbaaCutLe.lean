import Derived.Test.YtadcbhjmbgenbaaKne
/-
  NodeCut: the law.
-/
namespace Go.Proofs.Ytadcbhjmbgenbaa
open Go.RowKit

theorem rest_eq (n m : Int) (hm : 0 < m) : (n.tmod m + m).tmod m = n % m := by
  have h1 := Int.tmod_add_mul_tdiv n m
  have h2 : -m < n.tmod m := Int.lt_tmod_of_pos n hm
  have h3 : n.tmod m < m := Int.tmod_lt_of_pos n hm
  rw [Int.tmod_eq_emod_of_nonneg (by omega), Int.add_emod_right]
  have e : n = n.tmod m + m * n.tdiv m := by omega
  conv => rhs; rw [e]
  rw [Int.add_mul_emod_self_left]
theorem slice_hm (a : Option Addr) (n c K M : Nat) (h : K ≤ M) (hM : M ≤ c) (w : World) : (Instr.slice 22 (.slice a n c) none (some (.int .i64 K)) (some (.int .i64 M))).run Try.prog w = .ok (.slice a K M) w := by
  rw [run_slice_hm w 22 a n c (by rw [elem24]; exact Try.underlying22) .i64 .i64 K M (by omega) (by omega) (by omega), elem24, size5]
  simp only [Result.andThen, sliced]
  congr 1
  cases a <;> simp [Addr.add]
theorem sliceAt_hm (a : Option Addr) (n c K M : Nat) (h : K ≤ M) (hM : M ≤ c) (w : World) : (Instr.sliceAt 22 (.slice a n c) none (some (.int .i64 K)) (some (.int .i64 M))).run Try.prog w = .ok (.slice a K M) w := by
  rw [run_sliceAt_slice w 22 _ _ _ _ (by rw [elem24]; exact Try.underlying22), slice_hm a n c K M h hM w]
theorem dE_some {s : List Nat} {n : Nd} (h : decN KD s = some n) : dE s = 0 ∧ dN s = n := by unfold dE dN; rw [h]; exact ⟨rfl, rfl⟩
theorem dE_none {s : List Nat} (h : decN KD s = none) : dE s = 70 ∧ dN s = nz := by unfold dE dN; rw [h]; exact ⟨rfl, rfl⟩
theorem eE_yes {n : Nd} (h : mayN KD n = true) : eE n = 0 ∧ eN n = encN n := by unfold eE eN; rw [h]; exact ⟨rfl, rfl⟩
theorem eE_no {n : Nd} (h : mayN KD n = false) : eE n = 70 ∧ eN n = [] := by unfold eE eN; rw [h]; exact ⟨rfl, rfl⟩
/-- a beginning of bytes -/
theorem vb_take {w : World} {a : Option Addr} {c K M : Nat} {s : List Nat} (h : Vb w (.slice a s.length c) s) (hK : K ≤ s.length) (hM : K ≤ M) (hn : a = none → M = 0) : Vb w (.slice a (s.take K).length M) (s.take K) := by
  obtain ⟨a', b, off, c', e, hv, h1, h2, h3⟩ := h
  injection e with e1 e2 e3
  subst e1 e3
  have hl : (s.take K).length = K := by rw [List.length_take]; omega
  refine ⟨a, b, off, M, rfl, ⟨fun h0 => hv.at_ (by omega), fun i hi => ?_, fun i hi => ?_, by have := hv.len; omega⟩, by omega, hn, by omega⟩
  · have g : gd (s.take K) i = gd s i := by
      unfold gd
      rw [List.getD_eq_getElem?_getD, List.getD_eq_getElem?_getD, List.getElem?_take_of_lt (by omega)]
    rw [g]
    exact hv.cell i (by omega)
  · have := gd_lt (s := s.take K) (fun x hx => (vw_ok hv).2 x (List.mem_of_mem_take hx)) i
    omega
theorem vb_cap {w : World} {a : Option Addr} {n c : Nat} {s : List Nat} (h : Vb w (.slice a n c) s) : s.length ≤ c ∧ (a = none → s.length = 0) := by
  obtain ⟨a', b, off, c', e, hv, h1, h2, h3⟩ := h
  injection e with e1 e2 e3
  subst e1 e3
  exact ⟨h1, fun e => by have := h2 e; omega⟩
theorem vb_cells {w : World} {a : Option Addr} {n c : Nat} {p : Addr} {s : List Nat} (h : Vb w (.slice a n c) s) (ha : a = some p) (j : Nat) (z : Value) (hz : (bv s)[j]? = some z) : w.cell? (p.add j) = some z := by
  obtain ⟨a', b, off, c', e, hv, h1, h2, h3⟩ := h
  injection e with e1 e2 e3
  subst e1 e3
  have hj : j < s.length := by rw [← bv_len s]; exact (List.getElem?_eq_some_iff.1 hz).1
  have := hv.at_ (by omega)
  rw [ha] at this
  have hp : p = ⟨b, off, none⟩ := Option.some.inj this
  subst hp
  rw [bv_at hj] at hz
  rw [← hz, Go.WideShapes.add_plain]
  exact hv.cell j hj
theorem grown_none {w w' : World} (h : w.grownBy w' none) : Below w.heap.size w w' := ⟨h.os, h.tape, h.output, h.size, fun k hk => h.block k hk (fun e => by cases e)⟩
/-- bytes appended to a list that is full -/
theorem wpList_append_full {ops : Array Oper} {rest : List Oper} {o : Oper} {a : Act} {w : World} {Q : Exit → Act → World → Prop} (hgd : o.guard = none) (s x : Operand) (ho : o.op = .call { callee := .builtin .append, args := #[s, x], argTypes := #[22, 22] })
    (b t : List Nat) (n m cE cS : Nat) (aE aS : Option Addr) (hn : b.length = n) (hm : t.length = m) (hb : Vb w (.slice aE n cE) b) (ht : Vb w (.slice aS m cS) t) (h0 : 0 < n) (h1 : 0 < m) (hl : n + m ≤ 140737488355328) (hs : a.eval s = .slice aE n n) (hx : a.eval x = .slice aS m cS)
    (h : ∀ v' w', w'.ownsRow w.heap.size 5 1 v' (b ++ t).length (bv (b ++ t)) → Below w.heap.size w w' → wpList Try.prog ops Q rest (a.put o.dst v') w') : wpList Try.prog ops Q (o :: rest) a w := by
  obtain ⟨i0, hi0, hz0, hz1, hz2⟩ := info_parts Try.info5
  obtain ⟨c1, c2⟩ := vb_cap hb
  obtain ⟨d1, d2⟩ := vb_cap ht
  cases aS with
  | none => have := d2 rfl; omega
  | some p =>
    refine wpList_append_grows _ hgd s x 22 ho 5 i0 (.int .u8 0) 1 1 Try.underlying22 hi0 hz0 hz1 hz2 rfl (by decide) aE n n (bv b) hs (fun e => by have := c2 e; omega) (by rw [bv_len, hn]; omega) (fun p hp j z hz => vb_cells hb hp j z hz) p m cS (bv t) hx (by rw [bv_len, hm]; omega) (fun j z hz => vb_cells ht rfl j z hz) (bv_one t) (by omega) (by unfold maxLen; omega) (by omega) (fun v' w' own gr => h v' w' ?_ (grown_none gr))
    rw [bv_app, List.length_append, hn, hm]
    exact own
/-- Decode of bytes that are none -/
theorem ndec_none {w : World} {v : Value} {s : List Nat} (h : Vb w v s) (hd : decN KD s = none) : Calls Try.prog 11 #[v] w fun e w' => ∃ u, e = .returned (.tuple #[.agg (nc nz u).toArray, .int .i64 70]) ∧ (nc nz u).toArray.all (·.oneCell') = true ∧ Below w.heap.size w w' := by
  refine (ndecode_any s w v h).mono ?_
  rintro e w' ⟨u, rfl, no, b⟩
  obtain ⟨e1, e2⟩ := dE_none hd
  rw [e2] at no
  exact ⟨u, by rw [e1, e2]; rfl, no.inn.one, b⟩
theorem ndec_some {w : World} {v : Value} {s : List Nat} {n : Nd} (h : Vb w v s) (hd : decN KD s = some n) : Calls Try.prog 11 #[v] w fun e w' => ∃ u, e = .returned (.tuple #[.agg (nc n u).toArray, .int .i64 0]) ∧ Nout w.heap.size w' n u ∧ Below w.heap.size w w' := by
  refine (ndecode_any s w v h).mono ?_
  rintro e w' ⟨u, rfl, no, b⟩
  obtain ⟨e1, e2⟩ := dE_some hd
  rw [e2] at no
  exact ⟨u, by rw [e1, e2]; rfl, no, b⟩

set_option maxRecDepth 100000 in
set_option maxHeartbeats 1600000 in
theorem ndec_bad {w : World} {a : Option Addr} {b off c : Nat} {s : List Nat} {p e : Nat} (hv : Vw w a b off s) (hc : s.length ≤ c) (hl : s.length ≤ 140737488355328) (hd : dec s = .bad p e) : Calls Try.prog 11 #[.slice a s.length c] w (DecPst s w) := by
  have hz := zv29
  have B0 : Below w.heap.size w (w.alloc (.cells (nc nz uz).toArray 29)) := below_alloc _ _
  have K := decode_any _ a b off c s (hv.below B0) hc hl
  have g0 := heap_alloc_new w (.cells (nc nz uz).toArray 29)
  have HG : Hid ((w.alloc (.cells (nc nz uz).toArray 29)).heap[w.heap.size]? = some (.cells (nc nz uz).toArray 29 (0, 0)) ∧ Below w.heap.size w (w.alloc (.cells (nc nz uz).toArray 29)) ∧ (w.alloc (.cells (nc nz uz).toArray 29)).heap.size = w.heap.size + 1) := ⟨g0, B0, by simp⟩
  have hE : decE s = e := by unfold decE; rw [hd]
  have hX : True := trivial
  have HN : Hid (decN KD s = none) := by show _ = _; unfold decN; rw [hd]
  clear hv hc g0 B0
  have he : decE s ≠ 0 := by rw [hE]; exact dec_bad hd
  obtain ⟨de, ede⟩ : ∃ d, d = decE s := ⟨_, rfl⟩
  obtain ⟨dp', edp⟩ : ∃ d, d = decP s := ⟨_, rfl⟩
  obtain ⟨xl, exl⟩ : ∃ d, d = (decX s).l := ⟨_, rfl⟩
  have j0 : ((de : Int) != 0) = true := by simp; omega
  have j0b : ¬ (de : Int) = 0 := by omega
  unfold DecPost at K
  rw [← ede, ← edp, ← exl] at K
  clear hd hE hX ede edp he exl
  go_enter Try.func11, Try.ntmps11
  go_wp2_with (first
    | (go_at_call 28; refine K.mono ?_; rintro e' w1 ⟨vb, vi, rfl, ho, b1⟩; obtain ⟨a1, n1, k1, a2, n2, k2, rfl, rfl⟩ := ho.lies.form; have HB : Hid (Below w.heap.size w w1) := ch HG.out.2.1 b1; have g1 := (b1.block w.heap.size (by rw [HG.out.2.2]; omega)).trans HG.out.1; have g2 := (heap_alloc_old w1 (.cells #[.bool xl, .slice a1 n1 k1, .slice a2 n2 k2] 62) (Array.getElem?_eq_some_iff.1 g1).1).trans g1; have B2 : Hid (Below w.heap.size w (w1.alloc (.cells #[.bool xl, .slice a1 n1 k1, .slice a2 n2 k2] 62))) := ch HB.out (below_alloc _ _); clear b1 ho g1 K)
    | refine wpList_bd29 (by kernel_rfl) (by rfl) ?_
    | refine wpList_st29b (by kernel_rfl) _ _ (by rfl) w.heap.size nz nz uz uz nz_w nz_w (nin_zero w).one g2 (by rfl) (by rfl) ?_)
  have hr3 := setRow_heap (w1.alloc (.cells #[.bool xl, .slice a1 n1 k1, .slice a2 n2 k2] 62)) w.heap.size _ (nc nz uz).toArray _ _ g2
  refine bodyPost_ret (res2n rfl _ _ w.heap.size _ _ _ nz_w (rng_row hr3) rfl rfl) rfl ?_
  have e1 : dN s = nz := by unfold dN; rw [HN.out]; rfl
  have e2 : dE s = 70 := by unfold dE; rw [HN.out]; rfl
  exact ⟨uz, by rw [e1, e2]; rfl, by rw [e1]; exact nout_zero _ _, below_setRow B2.out (by omega) _⟩
/-- an encoding with bytes behind it -/
theorem dec_more_bad {n : Nd} (hw : n.W) (hm : mayN KD n = true) {t : List Nat} (ht : 0 < t.length) : ∃ p e, dec (encN n ++ t) = .bad p e := by
  have ni := ni_may hw hm
  have hlen : (encN n ++ t).length = (encN n).length + t.length := List.length_append
  unfold dec
  by_cases q : 1048576 < (encN n ++ t).length
  · rw [if_pos q]; exact ⟨_, _, rfl⟩
  · rw [if_neg q]
    have hat : At (encN n ++ t) 0 (encN n) := fun i hi => by rw [Nat.zero_add, gd_app_l hi]
    rw [rd_form (nIt n) (encN n ++ t) 80 0 _ ni.may ni.dp (by have := ni.len; omega) hat (by rw [hlen]; unfold encN; omega) (Nat.le_refl _)]
    dsimp only
    rw [if_pos (by rw [hlen]; unfold encN; omega)]
    exact ⟨_, _, rfl⟩
theorem ndec_more {w : World} {B : Nat} {n : Nd} {t : List Nat} {v : Value} (hw : n.W) (hm : mayN KD n = true) (ht : 0 < t.length) (ho : w.ownsRow B 5 1 v (encN n ++ t).length (bv (encN n ++ t))) (hb : ∀ x ∈ encN n ++ t, x < 256) (hl : (encN n ++ t).length ≤ 140737488355328) :
    Calls Try.prog 11 #[v] w fun e w' => ∃ u, e = .returned (.tuple #[.agg (nc nz u).toArray, .int .i64 70]) ∧ (nc nz u).toArray.all (·.oneCell') = true ∧ Below w.heap.size w w' := by
  obtain ⟨p, e, hd⟩ := dec_more_bad hw hm ht
  have st : Str w (fun _ => True) v (encN n ++ t) := ⟨own_base ho, fun _ _ => trivial, ⟨by omega, hb⟩⟩
  obtain ⟨a, g, c, rfl, hc, hv, -⟩ := st.view
  refine (ndec_bad hv hc hl hd).mono ?_
  rintro e w' ⟨u, rfl, no, b⟩
  obtain ⟨e1, e2⟩ := dE_none (decN_more hw hm ht)
  rw [e2] at no
  exact ⟨u, by rw [e1, e2]; rfl, no.inn.one, b⟩

set_option maxRecDepth 100000 in
set_option maxHeartbeats 3200000 in
theorem ncut_any (w : World) (n : Nd) (u : Nv) (h : Nin w n u) (cut : Int) (v : Value) (s : List Nat) (hs : Vb w v s) : Calls Try.prog 3 #[.agg (nc n u).toArray, .int .i64 cut, v] w fun e w' => e = .returned (.bool true) ∧ Below w.heap.size w w' := by
  have hz := zv29
  obtain ⟨z, ez⟩ : ∃ z, z = nz := ⟨_, rfl⟩
  have zW : z.W := by rw [ez]; exact nz_w
  have HEZ : Hid (z = nz) := ez
  clear ez
  have B1 : Below w.heap.size w (w.alloc (.cells (nc n u).toArray 29)) := below_alloc _ _
  have hn := h.W
  have nb := nb_new hn w u
  have KE := nencode_any (h.keep B1)
  have KN : ∀ (w0 : World) (e : Int), Calls Try.prog 9 #[.int .i64 e] w0 fun r w' => r = .returned (.int .i64 e) ∧ w0 = w' := fun w0 e => (num_any w0 e).mono (fun _ _ h => ⟨h.1, h.2.symm⟩)
  have HK : Hid (∀ w0, Calls Try.prog 10 #[] w0 fun e w' => e = .returned (.bool true) ∧ Below w0.heap.size w0 w') := known_any
  have HS : Hid (Vb w v s) := hs
  obtain ⟨aS, bS, oS, cS, rfl, -, hcS, hnS, hlS⟩ := hs
  obtain ⟨m, em⟩ : ∃ m, m = s.length := ⟨_, rfl⟩
  rw [← em] at hlS hcS ⊢
  have HM : Hid (m = s.length) := em
  clear h em
  cases hm : mayN KD n with
  | false =>
    obtain ⟨e1, e2⟩ := eE_no hm
    rw [e1, e2] at KE
    clear e1 e2 hm
    go_enter Try.func3, Try.ntmps3
    go_wp2_with (first
      | refine wpList_ld29 (by kernel_rfl) _ (by rfl) _ _ _ hn nb (by rfl) ?_
      | (go_at_call 8; refine KE.mono ?_; rintro e w1 ⟨v1, rfl, an⟩; have HB : Hid (Below w.heap.size w w1) := ch B1 an.below; have KK := HK.out w1; clear an KE)
      | (go_at_call 9; refine (KN _ _).mono ?_; rintro e w' ⟨rfl, rfl⟩)
      | (go_at_call 10; refine KK.mono ?_; rintro e w2 ⟨rfl, b2⟩; have HB2 : Hid (Below w.heap.size w w2) := ch HB.out b2; clear b2 KK))
    go_ret
    exact ⟨rfl, HB2.out⟩
  | true =>
    obtain ⟨e1, e2⟩ := eE_yes hm
    rw [e1, e2] at KE
    have ni := ni_may hn hm
    obtain ⟨b, eb⟩ : ∃ b, b = encN n := ⟨_, rfl⟩
    rw [← eb] at KE
    obtain ⟨L, eL⟩ : ∃ L, L = b.length := ⟨_, rfl⟩
    have hL2 : 2 ≤ L := by rw [eL, eb]; exact ni.low
    have hL1 : L ≤ 1024 := by rw [eL, eb]; exact ni.len
    have HBE : Hid (b = encN n ∧ L = b.length ∧ mayN KD n = true) := ⟨eb, eL, hm⟩
    clear e1 e2 hm ni eb eL
    obtain ⟨K, hK⟩ : ∃ K : Nat, cut % (L : Int) = K := ⟨(cut % (L : Int)).toNat, by have := Int.emod_nonneg cut (show (L : Int) ≠ 0 by omega); omega⟩
    have hKl : K < L := by have := Int.emod_lt_of_pos cut (show (0 : Int) < L by omega); omega
    have r := rest_eq cut L (by omega)
    rw [hK] at r
    have rb1 : -(L : Int) < cut.tmod L := Int.lt_tmod_of_pos cut (by omega)
    have rb2 : cut.tmod L < L := Int.tmod_lt_of_pos cut (by omega)
    have L0 : ¬ (L : Int) = 0 := by omega
    have L0b : ((L : Int) == 0) = false := by simpa using L0
    clear hK
    go_enter Try.func3, Try.ntmps3
    by_cases m0 : 0 < m
    · have j0 : (0 : Int) < m := by omega
      obtain ⟨bs, ebs⟩ : ∃ x, x = b ++ s := ⟨_, rfl⟩
      have HBS : Hid (bs = b ++ s) := ebs
      clear ebs
      have HK2 : Hid (∀ {w3 : World} {B : Nat} {v : Value}, w3.ownsRow B 5 1 v bs.length (bv bs) → (∀ x ∈ b, x < 256) → Calls Try.prog 11 #[v] w3 fun e w' => ∃ u, e = .returned (.tuple #[.agg (nc z u).toArray, .int .i64 70]) ∧ (nc z u).toArray.all (·.oneCell') = true ∧ Below w3.heap.size w3 w') := fun {w3 B v} ho hb => by
        rw [HBS.out] at ho
        have hl : (b ++ s).length ≤ 140737488355328 := by rw [List.length_append, ← HBE.out.2.1, ← HM.out]; omega
        have hbb : ∀ x ∈ b ++ s, x < 256 := fun x hx => (List.mem_append.1 hx).elim (hb x) (vb_byt HS.out x)
        rw [HBE.out.1] at ho hl hbb
        rw [HEZ.out]
        exact ndec_more hn HBE.out.2.2 (by rw [← HM.out]; exact m0) ho hbb hl
      obtain ⟨pS, rfl⟩ : ∃ p, aS = some p := by
        cases aS with
        | none => have := hnS rfl; omega
        | some p => exact ⟨p, rfl⟩
      obtain ⟨i0, hi0, hz0, hz1, hz2⟩ := info_parts Try.info5
      have HI0 : Hid (Try.prog.info? 5 = some i0 ∧ i0.zero = some (.int .u8 0) ∧ i0.size = 1 ∧ i0.bytes = 1) := ⟨hi0, hz0, hz1, hz2⟩
      clear hi0 hz0 hz1 hz2
      go_wp2_with (first
        | refine wpList_ld29 (by kernel_rfl) _ (by rfl) _ _ _ hn nb (by rfl) ?_
        | (go_at_call 8; (refine KE.mono ?_; rintro e w1 ⟨v1, rfl, an⟩; obtain ⟨aE, cE, rfl⟩ := an.form; have HA : Hid (Ans (w.alloc (.cells (nc n u).toArray 29)) w1 (.slice aE b.length cE) b) := an; obtain ⟨hcE, hnE⟩ := vb_cap an.vb; rw [← HBE.out.2.1] at hcE hnE; rw [← HBE.out.2.1]; have ja := slice_hm aE L cE K K (Nat.le_refl _) (by omega); have jb := sliceAt_hm aE L cE K K (Nat.le_refl _) (by omega); have jc := slice_hm aE L cE L L (Nat.le_refl _) (by omega); have jd := sliceAt_hm aE L cE L L (Nat.le_refl _) (by omega); have K1 := ndec_none (vb_take (K := K) (M := K) an.vb (by have := HBE.out.2.1; omega) (Nat.le_refl _) (fun e => by have := hnE e; omega)) (by rw [HBE.out.1]; exact decN_cut hn HBE.out.2.2 (by rw [← HBE.out.1, ← HBE.out.2.1]; exact hKl)); rw [show (b.take K).length = K by rw [List.length_take]; have := HBE.out.2.1; omega] at K1; rw [← HEZ.out] at K1; clear an KE))
        | (go_at_call 11; refine K1.mono ?_; rintro e w2 ⟨u1, rfl, one1, b2⟩; have HB2 : Hid (Below w1.heap.size w1 w2 ∧ Below w.heap.size w (w2.alloc (.cells (nc z u1).toArray 29))) := ⟨b2, ch (ch (ch B1 HA.out.below) b2) (below_alloc _ _)⟩; have KK := HK.out (w2.alloc (.cells (nc z u1).toArray 29)); clear b2 K1)
        | refine wpList_st29 (by kernel_rfl) _ _ (by rfl) z nz u1 uz zW nz_w one1 (by rfl) (by rfl) ?_
        | (go_at_call 9; refine (KN _ _).mono ?_; rintro e w' ⟨rfl, rfl⟩)
        | (refine wpList_append_full (by rfl) _ _ (by rfl) b s L m cE cS aE (some pS) HBE.out.2.1.symm HM.out.symm (by rw [HBE.out.2.1]; exact Rel.keep HA.out.vb (ch HB2.out.1 (below_alloc w2 (.cells (nc z u1).toArray 29)))) (by rw [HM.out]; exact Rel.keep HS.out HB2.out.2) (by omega) m0 (by omega) (by rfl) (by rfl) ?_; intro v' w3 own3 b3; rw [← HBS.out] at own3; obtain ⟨a3, c3, rfl⟩ := own_slice own3; have HB3 : Hid (Below w.heap.size w w3) := ch HB2.out.2 b3; have K2 : Calls Try.prog 11 #[.slice a3 bs.length c3] w3 fun e w' => ∃ u, e = .returned (.tuple #[.agg (nc z u).toArray, .int .i64 70]) ∧ (nc z u).toArray.all (·.oneCell') = true ∧ Below w3.heap.size w3 w' := HK2.out own3 HA.out.byt; clear own3 b3 KK)
        | (go_at_call 11; refine K2.mono ?_; rintro e w4 ⟨u4, rfl, one4, b4⟩; have HB4 : Hid (Below w.heap.size w (w4.alloc (.cells (nc z u4).toArray 29))) := ch (ch HB3.out b4) (below_alloc _ _); have KK4 := HK.out (w4.alloc (.cells (nc z u4).toArray 29)); clear b4 K2)
        | refine wpList_st29 (by kernel_rfl) _ _ (by rfl) z nz u4 uz zW nz_w one4 (by rfl) (by rfl) ?_
        | (go_at_call 10; refine KK4.mono ?_; rintro e w5 ⟨rfl, b5⟩; have HB5 : Hid (Below w.heap.size w w5) := ch HB4.out b5; clear b5 KK4))
      go_ret
      exact ⟨rfl, HB5.out⟩
    · have j0 : ¬ (0 : Int) < m := by omega
      go_wp2_with (first
        | refine wpList_ld29 (by kernel_rfl) _ (by rfl) _ _ _ hn nb (by rfl) ?_
        | (go_at_call 8; refine KE.mono ?_; rintro e w1 ⟨v1, rfl, an⟩; obtain ⟨aE, cE, rfl⟩ := an.form; have HA : Hid (Ans (w.alloc (.cells (nc n u).toArray 29)) w1 (.slice aE b.length cE) b) := an; obtain ⟨hcE, hnE⟩ := vb_cap an.vb; rw [← HBE.out.2.1] at hcE hnE; rw [← HBE.out.2.1]; have ja := slice_hm aE L cE K K (Nat.le_refl _) (by omega); have jb := sliceAt_hm aE L cE K K (Nat.le_refl _) (by omega); have jc := slice_hm aE L cE L L (Nat.le_refl _) (by omega); have jd := sliceAt_hm aE L cE L L (Nat.le_refl _) (by omega); have K1 := ndec_none (vb_take (K := K) (M := K) an.vb (by have := HBE.out.2.1; omega) (Nat.le_refl _) (fun e => by have := hnE e; omega)) (by rw [HBE.out.1]; exact decN_cut hn HBE.out.2.2 (by rw [← HBE.out.1, ← HBE.out.2.1]; exact hKl)); rw [show (b.take K).length = K by rw [List.length_take]; have := HBE.out.2.1; omega] at K1; rw [← HEZ.out] at K1; clear an KE)
        | (go_at_call 11; refine K1.mono ?_; rintro e w2 ⟨u1, rfl, one1, b2⟩; have HB2 : Hid (Below w1.heap.size w1 w2 ∧ Below w.heap.size w (w2.alloc (.cells (nc z u1).toArray 29))) := ⟨b2, ch (ch (ch B1 HA.out.below) b2) (below_alloc _ _)⟩; have KK := HK.out (w2.alloc (.cells (nc z u1).toArray 29)); clear b2 K1)
        | refine wpList_st29 (by kernel_rfl) _ _ (by rfl) z nz u1 uz zW nz_w one1 (by rfl) (by rfl) ?_
        | (go_at_call 9; refine (KN _ _).mono ?_; rintro e w' ⟨rfl, rfl⟩)
        | (go_at_call 10; refine KK.mono ?_; rintro e w5 ⟨rfl, b5⟩; have HB5 : Hid (Below w.heap.size w w5) := ch HB2.out.2 b5; clear b5 KK))
      go_ret
      exact ⟨rfl, HB5.out⟩
end Go.Proofs.Ytadcbhjmbgenbaa
