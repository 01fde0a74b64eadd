import Derived.Test.YtpiinkfcaoaffaaKnzy
/-
  NodeCut: the law.
-/
namespace Go.Proofs.Ytpiinkfcaoaffaa
open Go.RowKit
theorem rest_eq (n m : Int) (hm : 0 < m) : (n.tmod m + m).tmod m = n % m := by
  have h1 := Int.tmod_add_mul_tdiv n m
  have h2 : -m < n.tmod m := Int.lt_tmod_of_pos n hm
  have h3 : n.tmod m < m := Int.tmod_lt_of_pos n hm
  rw [Int.tmod_eq_emod_of_nonneg (by omega), Int.add_emod_right]
  have e : n = n.tmod m + m * n.tdiv m := by omega
  conv => rhs; rw [e]
  rw [Int.add_mul_emod_self_left]
theorem slice_hm (a : Option Addr) (n c K M : Nat) (h : K ≤ M) (hM : M ≤ c) (w : World) : (Instr.slice 22 (.slice a n c) none (some (.int .i64 K)) (some (.int .i64 M))).run Try.prog w = .ok (.slice a K M) w := by
  rw [run_slice_hm w 22 a n c (by rw [elem24]; exact Try.underlying22) .i64 .i64 K M (by omega) (by omega) (by omega), elem24, size5]
  simp only [Result.andThen, sliced]
  congr 1
  cases a <;> simp [Addr.add]
theorem sliceAt_hm (a : Option Addr) (n c K M : Nat) (h : K ≤ M) (hM : M ≤ c) (w : World) : (Instr.sliceAt 22 (.slice a n c) none (some (.int .i64 K)) (some (.int .i64 M))).run Try.prog w = .ok (.slice a K M) w := by
  rw [run_sliceAt_slice w 22 _ _ _ _ (by rw [elem24]; exact Try.underlying22), slice_hm a n c K M h hM w]
theorem dE_some {s : List Nat} {n : Nd} (h : decN KD s = some n) : dE s = 0 ∧ dN s = n := by unfold dE dN; rw [h]; exact ⟨rfl, rfl⟩
theorem dE_none {s : List Nat} (h : decN KD s = none) : dE s = 70 ∧ dN s = nz := by unfold dE dN; rw [h]; exact ⟨rfl, rfl⟩
theorem eE_yes {n : Nd} (h : mayN KD n = true) : eE n = 0 ∧ eN n = encN n := by unfold eE eN; rw [h]; exact ⟨rfl, rfl⟩
theorem eE_no {n : Nd} (h : mayN KD n = false) : eE n = 70 ∧ eN n = [] := by unfold eE eN; rw [h]; exact ⟨rfl, rfl⟩
/-- a beginning of bytes -/
theorem vb_take {w : World} {a : Option Addr} {c K M : Nat} {s : List Nat} (h : Vb w (.slice a s.length c) s) (hK : K ≤ s.length) (hM : K ≤ M) (hn : a = none → M = 0) : Vb w (.slice a (s.take K).length M) (s.take K) := by
  obtain ⟨a', b, off, c', e, hv, h1, h2, h3⟩ := h
  injection e with e1 e2 e3
  subst e1 e3
  have hl : (s.take K).length = K := by rw [List.length_take]; omega
  refine ⟨a, b, off, M, rfl, ⟨fun h0 => hv.at_ (by omega), fun i hi => ?_, fun i hi => ?_, by have := hv.len; omega⟩, by omega, hn, by omega⟩
  · have g : gd (s.take K) i = gd s i := by
      unfold gd
      rw [List.getD_eq_getElem?_getD, List.getD_eq_getElem?_getD, List.getElem?_take_of_lt (by omega)]
    rw [g]
    exact hv.cell i (by omega)
  · have := gd_lt (s := s.take K) (fun x hx => (vw_ok hv).2 x (List.mem_of_mem_take hx)) i
    omega
theorem vb_cap {w : World} {a : Option Addr} {n c : Nat} {s : List Nat} (h : Vb w (.slice a n c) s) : s.length ≤ c ∧ (a = none → s.length = 0) := by
  obtain ⟨a', b, off, c', e, hv, h1, h2, h3⟩ := h
  injection e with e1 e2 e3
  subst e1 e3
  exact ⟨h1, fun e => by have := h2 e; omega⟩
theorem vb_cells {w : World} {a : Option Addr} {n c : Nat} {p : Addr} {s : List Nat} (h : Vb w (.slice a n c) s) (ha : a = some p) (j : Nat) (z : Value) (hz : (bv s)[j]? = some z) : w.cell? (p.add j) = some z := by
  obtain ⟨a', b, off, c', e, hv, h1, h2, h3⟩ := h
  injection e with e1 e2 e3
  subst e1 e3
  have hj : j < s.length := by rw [← bv_len s]; exact (List.getElem?_eq_some_iff.1 hz).1
  have := hv.at_ (by omega)
  rw [ha] at this
  have hp : p = ⟨b, off, none⟩ := Option.some.inj this
  subst hp
  rw [bv_at hj] at hz
  rw [← hz, Go.WideShapes.add_plain]
  exact hv.cell j hj
theorem grown_none {w w' : World} (h : w.grownBy w' none) : Below w.heap.size w w' := ⟨h.os, h.tape, h.output, h.size, fun k hk => h.block k hk (fun e => by cases e)⟩
/-- bytes appended to a list that is full -/
theorem wpList_append_full {ops : Array Oper} {rest : List Oper} {o : Oper} {a : Act} {w : World} {Q : Exit → Act → World → Prop} (hgd : o.guard = none) (s x : Operand) (ho : o.op = .call { callee := .builtin .append, args := #[s, x], argTypes := #[22, 22] })
    (b t : List Nat) (n m cE cS : Nat) (aE aS : Option Addr) (hn : b.length = n) (hm : t.length = m) (hb : Vb w (.slice aE n cE) b) (ht : Vb w (.slice aS m cS) t) (h0 : 0 < n) (h1 : 0 < m) (hl : n + m ≤ 140737488355328) (hs : a.eval s = .slice aE n n) (hx : a.eval x = .slice aS m cS)
    (h : ∀ v' w', w'.ownsRow w.heap.size 5 1 v' (b ++ t).length (bv (b ++ t)) → Below w.heap.size w w' → wpList Try.prog ops Q rest (a.put o.dst v') w') : wpList Try.prog ops Q (o :: rest) a w := by
  obtain ⟨i0, hi0, hz0, hz1, hz2⟩ := info_parts Try.info5
  obtain ⟨c1, c2⟩ := vb_cap hb
  obtain ⟨d1, d2⟩ := vb_cap ht
  cases aS with
  | none => have := d2 rfl; omega
  | some p =>
    refine wpList_append_grows _ hgd s x 22 ho 5 i0 (.int .u8 0) 1 1 Try.underlying22 hi0 hz0 hz1 hz2 rfl (by decide) aE n n (bv b) hs (fun e => by have := c2 e; omega) (by rw [bv_len, hn]; omega) (fun p hp j z hz => vb_cells hb hp j z hz) p m cS (bv t) hx (by rw [bv_len, hm]; omega) (fun j z hz => vb_cells ht rfl j z hz) (bv_one t) (by omega) (by unfold maxLen; omega) (by omega) (fun v' w' own gr => h v' w' ?_ (grown_none gr))
    rw [bv_app, List.length_append, hn, hm]
    exact own
/-- Decode of bytes that are none -/
theorem ndec_none {w : World} {v : Value} {s : List Nat} (h : Vb w v s) (hd : decN KD s = none) : Calls Try.prog 8 #[v] w fun e w' => ∃ u, e = .returned (.tuple #[.agg (nc nz u).toArray, .int .i64 70]) ∧ (nc nz u).toArray.all (·.oneCell') = true ∧ Below w.heap.size w w' := by
  refine (ndecode_any s w v h).mono ?_
  rintro e w' ⟨u, rfl, no, b⟩
  obtain ⟨e1, e2⟩ := dE_none hd
  rw [e2] at no
  exact ⟨u, by rw [e1, e2]; rfl, no.inn.one, b⟩
theorem ndec_some {w : World} {v : Value} {s : List Nat} {n : Nd} (h : Vb w v s) (hd : decN KD s = some n) : Calls Try.prog 8 #[v] w fun e w' => ∃ u, e = .returned (.tuple #[.agg (nc n u).toArray, .int .i64 0]) ∧ Nout w.heap.size w' n u ∧ Below w.heap.size w w' := by
  refine (ndecode_any s w v h).mono ?_
  rintro e w' ⟨u, rfl, no, b⟩
  obtain ⟨e1, e2⟩ := dE_some hd
  rw [e2] at no
  exact ⟨u, by rw [e1, e2]; rfl, no, b⟩
set_option maxRecDepth 100000 in
set_option maxHeartbeats 1600000 in
theorem ndec_bad {w : World} {a : Option Addr} {b off c : Nat} {s : List Nat} {p e : Nat} (hv : Vw w a b off s) (hc : s.length ≤ c) (hl : s.length ≤ 140737488355328) (hd : dec s = .bad p e) : Calls Try.prog 8 #[.slice a s.length c] w (DecPst s w) := by
  have hz := zv29
  have B0 : Below w.heap.size w (w.alloc (.cells (nc nz uz).toArray 29)) := below_alloc _ _
  have K := decode_any _ a b off c s (hv.below B0) hc hl
  have g0 := heap_alloc_new w (.cells (nc nz uz).toArray 29)
  have HG : Hid ((w.alloc (.cells (nc nz uz).toArray 29)).heap[w.heap.size]? = some (.cells (nc nz uz).toArray 29 (0, 0)) ∧ Below w.heap.size w (w.alloc (.cells (nc nz uz).toArray 29)) ∧ (w.alloc (.cells (nc nz uz).toArray 29)).heap.size = w.heap.size + 1) := ⟨g0, B0, by simp⟩
  have hE : decE s = e := by unfold decE; rw [hd]
  have hX : True := trivial
  have HN : Hid (decN KD s = none) := by show _ = _; unfold decN; rw [hd]
  clear hv hc g0 B0
  have he : decE s ≠ 0 := by rw [hE]; exact dec_bad hd
  obtain ⟨de, ede⟩ : ∃ d, d = decE s := ⟨_, rfl⟩
  obtain ⟨dp', edp⟩ : ∃ d, d = decP s := ⟨_, rfl⟩
  obtain ⟨xl, exl⟩ : ∃ d, d = (decX s).l := ⟨_, rfl⟩
  have j0 : ((de : Int) != 0) = true := by simp; omega
  have j0b : ¬ (de : Int) = 0 := by omega
  unfold DecPost at K
  rw [← ede, ← edp, ← exl] at K
  clear hd hE hX ede edp he exl
  go_enter Try.func8, Try.ntmps8
  go_wp2_with (first
    | (go_at_call 18; refine K.mono ?_; rintro e' w1 ⟨vb, vi, rfl, ho, b1⟩; obtain ⟨a1, n1, k1, a2, n2, k2, rfl, rfl⟩ := ho.lies.form; have HB : Hid (Below w.heap.size w w1) := ch HG.out.2.1 b1; have g1 := (b1.block w.heap.size (by rw [HG.out.2.2]; omega)).trans HG.out.1; have g2 := (heap_alloc_old w1 (.cells #[.bool xl, .slice a1 n1 k1, .slice a2 n2 k2] 51) (Array.getElem?_eq_some_iff.1 g1).1).trans g1; have B2 : Hid (Below w.heap.size w (w1.alloc (.cells #[.bool xl, .slice a1 n1 k1, .slice a2 n2 k2] 51))) := ch HB.out (below_alloc _ _); clear b1 ho g1 K)
    | refine wpList_bd29 (by kernel_rfl) (by rfl) ?_
    | refine wpList_st29b (by kernel_rfl) _ _ (by rfl) w.heap.size nz nz uz uz nz_w nz_w (nin_zero w).one g2 (by rfl) (by rfl) ?_)
  have hr3 := setRow_heap (w1.alloc (.cells #[.bool xl, .slice a1 n1 k1, .slice a2 n2 k2] 51)) w.heap.size _ (nc nz uz).toArray _ _ g2
  refine bodyPost_ret (res2n rfl _ _ w.heap.size _ _ _ nz_w (rng_row hr3) rfl rfl) rfl ?_
  have e1 : dN s = nz := by unfold dN; rw [HN.out]; rfl
  have e2 : dE s = 70 := by unfold dE; rw [HN.out]; rfl
  exact ⟨uz, by rw [e1, e2]; rfl, by rw [e1]; exact nout_zero _ _, below_setRow B2.out (by omega) _⟩
/-- an encoding with bytes behind it -/
theorem dec_more_bad {n : Nd} (hw : n.W) (hm : mayN KD n = true) {t : List Nat} (ht : 0 < t.length) : ∃ p e, dec (encN n ++ t) = .bad p e := by
  have ni := ni_may hw hm
  have hlen : (encN n ++ t).length = (encN n).length + t.length := List.length_append
  unfold dec
  by_cases q : 1048576 < (encN n ++ t).length
  · rw [if_pos q]; exact ⟨_, _, rfl⟩
  · rw [if_neg q]
    have hat : At (encN n ++ t) 0 (encN n) := fun i hi => by rw [Nat.zero_add, gd_app_l hi]
    rw [rd_form (nIt n) (encN n ++ t) 80 0 _ ni.may ni.dp (by have := ni.len; omega) hat (by rw [hlen]; unfold encN; omega) (Nat.le_refl _)]
    dsimp only
    rw [if_pos (by rw [hlen]; unfold encN; omega)]
    exact ⟨_, _, rfl⟩
theorem ndec_more {w : World} {B : Nat} {n : Nd} {t : List Nat} {v : Value} (hw : n.W) (hm : mayN KD n = true) (ht : 0 < t.length) (ho : w.ownsRow B 5 1 v (encN n ++ t).length (bv (encN n ++ t))) (hb : ∀ x ∈ encN n ++ t, x < 256) (hl : (encN n ++ t).length ≤ 140737488355328) :
    Calls Try.prog 8 #[v] w fun e w' => ∃ u, e = .returned (.tuple #[.agg (nc nz u).toArray, .int .i64 70]) ∧ (nc nz u).toArray.all (·.oneCell') = true ∧ Below w.heap.size w w' := by
  obtain ⟨p, e, hd⟩ := dec_more_bad hw hm ht
  have st : Str w (fun _ => True) v (encN n ++ t) := ⟨own_base ho, fun _ _ => trivial, ⟨by omega, hb⟩⟩
  obtain ⟨a, g, c, rfl, hc, hv, -⟩ := st.view
  refine (ndec_bad hv hc hl hd).mono ?_
  rintro e w' ⟨u, rfl, no, b⟩
  obtain ⟨e1, e2⟩ := dE_none (decN_more hw hm ht)
  rw [e2] at no
  exact ⟨u, by rw [e1, e2]; rfl, no.inn.one, b⟩
end Go.Proofs.Ytpiinkfcaoaffaa
/-
  NodeRound: laws of one operation.
-/
namespace Go.Proofs.Ytpiinkfcaoaffaa
open Go.RowKit
theorem eNum : ∀ args w, (callFunc 9 args).run Try.prog w = .ok (.enter 9 args) w := enters_of Try.func9 (by kernel_rfl) rfl
theorem eSame : ∀ args w, (callFunc 10 args).run Try.prog w = .ok (.enter 10 args) w := enters_of Try.func10 (by kernel_rfl) rfl
theorem vb_view {w : World} {a : Option Addr} {n c : Nat} {s : List Nat} (h : Vb w (.slice a n c) s) : ∃ b off, Vw w a b off s ∧ (a = none → c = 0) := by
  obtain ⟨a', b, off, c', e, hv, h1, h2, h3⟩ := h
  injection e with e1 e2 e3
  subst e1 e3
  exact ⟨b, off, hv, h2⟩
section
variable {ops : Array Oper} {S : World → Prop} {o : Oper} {a : Act}
theorem y_eqlIr (hw : Region.wanted o (yielded ops a.tmps) = true) (x y : Operand) (ho : o.op = .binOp .eql 3 x y 3) (d d' : Int) (hx : a.eval x = .int .i64 d) (hy : a.eval y = .int .i64 d') (r : Bool) (hr : (d == d') = r) : YieldsIf Try.prog ops S o (.bool r) a :=
  .inl ⟨hw, fun w _ => by
    unfold execOp
    simp only [ho, hx, hy]
    subst hr
    go_simp⟩
theorem y_eqlSr (hw : Region.wanted o (yielded ops a.tmps) = true) (x y : Operand) (ho : o.op = .binOp .eql 9 x y 9) (s s' : ByteArray) (hx : a.eval x = .string s) (hy : a.eval y = .string s') (r : Bool) (hr : (s.toList == s'.toList) = r) : YieldsIf Try.prog ops S o (.bool r) a :=
  .inl ⟨hw, fun w _ => by
    unfold execOp
    simp only [ho, hx, hy]
    subst hr
    go_simp⟩
theorem y_neqBs (hw : Region.wanted o (yielded ops a.tmps) = true) (x y : Operand) (ho : o.op = .binOp .neq 4 x y 4) (b : Bool) (hx : a.eval x = .bool b) (hy : a.eval y = .bool b) : YieldsIf Try.prog ops S o (.bool false) a :=
  .inl ⟨hw, fun w _ => by
    have e : (b != b) = false := by simp
    unfold execOp
    simp only [ho, hx, hy]
    go_simp⟩
end
end Go.Proofs.Ytpiinkfcaoaffaa
