import Derived.Test.YtpiinkfcaoaffaaLszy
/-
  NodeApart: the law.
-/
namespace Go.Proofs.Ytpiinkfcaoaffaa
open Go.RowKit
def hq : List Nat := [1, 2, 3] ++ List.replicate 29 0
theorem hq_len : hq.length = 32 := by decide
theorem built24q : Try.prog.built 24 [(0, .int .u8 1), (1, .int .u8 2), (2, .int .u8 3)] = some (bv hq).toArray := by kernel_rfl
theorem wpList_st24m {ops : Array Oper} {rest : List Oper} {op : Oper} {a : Act} {w : World} {Q : Exit → Act → World → Prop} (hw : Region.wanted op (yielded ops a.tmps) = true) (x y : Operand) (ho : op.op = .store 24 x y) (b o : Nat) (s : List Nat) (hs : s.length = 32) (ht : w.there b o 32)
    (hx : a.eval x = .pointer (some ⟨b, o, none⟩)) (hy : a.eval y = .agg (bv s).toArray) (h : wpList Try.prog ops Q rest (a.put op.dst undef) (w.setCells b o (bv s))) : wpList Try.prog ops Q (op :: rest) a w :=
  wpList_g hw (wp_store_mid 24 x y ho b o (bv s).toArray hx hy (by rw [List.size_toArray, bv_len, hs]; exact ht) (by rw [List.size_toArray]; exact info_bv hs) (all_oneCell_toArray (bv_one s)) h)
theorem Nb.same {w w' : World} {b : Nat} {n : Nd} {u : Nv} (hW : n.W) (h : Nb w b n u) (k : w'.heap[b]? = w.heap[b]?) : Nb w' b n u := nb_of hW (rng_same h.all k)
/-- a node's lists, in blocks of P's -/
structure Nf (P : Nat → Prop) (w : World) (n : Nd) (u : Nv) : Prop where
  W : n.W
  p : Vf P w u.p n.path
  v : Vf P w u.v n.val
  x : Vf P w u.x n.next.b
  k : ∀ {i : Nat} {r : Rf}, n.kids[i]? = some r → Vf P w (u.k i) r.b
theorem Nf.same {P : Nat → Prop} {w w' : World} {n : Nd} {u : Nv} (h : Nf P w n u) (k : ∀ i, P i → i < w.heap.size → w'.heap[i]? = w.heap[i]?) : Nf P w' n u := ⟨h.W, h.p.same k, h.v.same k, h.x.same k, fun hr => (h.k hr).same k⟩
theorem Nf.inn {P : Nat → Prop} {w : World} {n : Nd} {u : Nv} (h : Nf P w n u) : Nin w n u := ⟨h.W, h.p.vb, h.v.vb, h.x.vb, fun hr => (h.k hr).vb⟩
theorem Nin.nf {w : World} {n : Nd} {u : Nv} (h : Nin w n u) : Nf (fun k => k < w.heap.size) w n u := ⟨h.W, vb_vf h.p, vb_vf h.v, vb_vf h.x, fun hr => vb_vf (h.k hr)⟩
theorem Nout.nf {B : Nat} {w : World} {n : Nd} {u : Nv} (h : Nout B w n u) : Nf (fun k => B ≤ k ∧ k < w.heap.size) w n u :=
  have f : ∀ {v : Value} {s : List Nat}, w.ownsRow B 5 1 v s.length (bv s) → (∀ x ∈ s, x < 256) → s.length ≤ 1048576 → Vf (fun k => B ≤ k ∧ k < w.heap.size) w v s := fun ho hb hl => vf_of_own ho hb (by omega) (fun q hq => ho.lt q hq)
  ⟨h.W, f h.p h.W.path h.lp, f h.v h.W.val h.lv, f h.x h.W.next.2.2 h.lx, fun hr => f (h.k hr) (h.W.kid _ (List.mem_of_getElem? hr)).2.2 (h.lk _ (List.mem_of_getElem? hr))⟩
theorem Ans.vf {w w' : World} {v : Value} {s : List Nat} (h : Ans w w' v s) : Vf (fun k => w.heap.size ≤ k ∧ k < w'.heap.size) w' v s := vf_of_own h.own h.byt h.len (fun q hq => h.own.lt q hq)
/-- the lists of a node that was handed out, each with its bytes -/
def ndB (n : Nd) : Nat → List Nat
  | 0 => n.path
  | 1 => n.val
  | 2 => n.next.b
  | i + 3 => (n.kids.getD i rz).b
theorem Nout.at_ {B : Nat} {w : World} {n : Nd} {u : Nv} (h : Nout B w n u) {i : Nat} (hi : i < 19) : w.ownsRow B 5 1 (u.at i) (ndB n i).length (bv (ndB n i)) ∧ (∀ x ∈ ndB n i, x < 256) ∧ (ndB n i).length ≤ 1048576 := by
  match i with
  | 0 => exact ⟨h.p, h.W.path, h.lp⟩
  | 1 => exact ⟨h.v, h.W.val, h.lv⟩
  | 2 => exact ⟨h.x, h.W.next.2.2, h.lx⟩
  | i + 3 =>
    have hk : i < n.kids.length := by rw [h.W.kids]; omega
    have e : n.kids.getD i rz = n.kids[i] := by rw [List.getD_eq_getElem?_getD, List.getElem?_eq_getElem hk]; rfl
    have e2 : ndB n (i + 3) = (n.kids[i]).b := by show (n.kids.getD i rz).b = _; rw [e]
    rw [e2]
    exact ⟨h.k (List.getElem?_eq_getElem hk), (h.W.kid _ (List.getElem_mem hk)).2.2, h.lk _ (List.getElem_mem hk)⟩
/-- the lists of a node and one more: apart -/
theorem apart_lists {w9 : World} {B lo lo' : Nat} {n : Nd} {um : Nv} {vc : Value} {b : List Nat} {al : Option Addr} {cl : Nat} (hl : w9.ownsRow B 22 1 (.slice al 20 cl) 20 (lsV um ++ [vc])) (hm : Nout lo w9 n um) (hc : w9.ownsRow lo' 5 1 vc b.length (bv b)) (hb : ∀ x ∈ b, x < 256) (hbl : b.length ≤ 1048576)
    (hs : ∀ i, i < 19 → Sep (um.at i) vc) : Calls Try.prog 12 #[.slice al 20 cl] w9 fun e w' => e = .returned (.bool true) ∧ Turn (fun g => ∃ v ∈ lsV um ++ [vc], v.ownBlock = some g) w9 w' := by
  have len : (lsV um ++ [vc]).length = 20 := by rw [List.length_append, lsV_len]; rfl
  have gt : ∀ {r : Nat} {x : Value}, (lsV um ++ [vc])[r]? = some x → (r < 19 ∧ x = um.at r) ∨ (r = 19 ∧ x = vc) := fun {r x} hr => by
    by_cases q : r < 19
    · rw [List.getElem?_append_left (by rw [lsV_len]; exact q), lsV_at um q] at hr
      exact Or.inl ⟨q, (Option.some.inj hr).symm⟩
    · have h2 := (List.getElem?_eq_some_iff.1 hr).1
      rw [len] at h2
      have e : r = 19 := by omega
      subst e
      rw [List.getElem?_append_right (by rw [lsV_len]; omega), lsV_len] at hr
      simp at hr
      exact Or.inr ⟨rfl, hr.symm⟩
  have key := apart_any4 w9 B al cl (lsV um ++ [vc]) (fun r => if r < 19 then ndB n r else b) (by rw [len]; exact hl) (fun r x hr => by
    rcases gt hr with ⟨h1, rfl⟩ | ⟨rfl, rfl⟩
    · obtain ⟨q1, q2, q3⟩ := hm.at_ h1
      simp only [if_pos h1]
      exact ⟨own_base q1, fun _ _ => trivial, ⟨by omega, q2⟩⟩
    · simp only [if_neg (show ¬ 19 < 19 by omega)]
      exact ⟨own_base hc, fun _ _ => trivial, ⟨by omega, hb⟩⟩) ?_ (fun r hr => by
    show (if r < 19 then ndB n r else b).length ≤ _
    split
    · rename_i h1
      have := (hm.at_ h1).2.2
      omega
    · omega) (by rw [len]; omega)
  · rw [len] at key
    exact key
  · rw [List.pairwise_iff_getElem]
    intro i j hi hj hij
    rw [len] at hi hj
    have e1 := List.getElem?_eq_getElem (l := lsV um ++ [vc]) (i := i) (by rw [len]; exact hi)
    have e2 := List.getElem?_eq_getElem (l := lsV um ++ [vc]) (i := j) (by rw [len]; exact hj)
    rcases gt e1 with ⟨h1, q1⟩ | ⟨h1, q1⟩
    · rcases gt e2 with ⟨h2, q2⟩ | ⟨h2, q2⟩
      · rw [q1, q2]
        exact hm.apart i j h1 h2 (by omega)
      · rw [q1, q2]
        exact hs i h1
    · omega
set_option maxRecDepth 100000 in
set_option maxHeartbeats 6400000 in
theorem napart_any (w : World) (n : Nd) (u : Nv) (h : Nin w n u) : Calls Try.prog 4 #[.agg (nc n u).toArray] w fun e w' => e = .returned (.bool true) ∧ Below w.heap.size w w' := by
  have hz := zv29
  have B1 : Below w.heap.size w (w.alloc (.cells (nc n u).toArray 29)) := below_alloc _ _
  have hn := h.W
  have nb := nb_new hn w u
  have KE := nencode_any (h.keep B1)
  have KN : ∀ (w0 : World) (e : Int), Calls Try.prog 9 #[.int .i64 e] w0 fun r w' => r = .returned (.int .i64 e) ∧ w0 = w' := fun w0 e => (num_any w0 e).mono (fun _ _ h => ⟨h.1, h.2.symm⟩)
  have HK : Hid (∀ w0, Calls Try.prog 5 #[] w0 fun e w' => e = .returned (.bool true) ∧ Below w0.heap.size w0 w') := known_any
  have HW : Hid (Nin w n u ∧ Nb (w.alloc (.cells (nc n u).toArray 29)) w.heap.size n u ∧ Below w.heap.size w (w.alloc (.cells (nc n u).toArray 29)) ∧ (w.alloc (.cells (nc n u).toArray 29)).heap.size = w.heap.size + 1) := ⟨h, nb, B1, by simp⟩
  clear h
  cases hm : mayN KD n with
  | false =>
    obtain ⟨e1, e2⟩ := eE_no hm
    rw [e1, e2] at KE
    clear e1 e2 hm
    go_enter Try.func4, Try.ntmps4
    go_wp2_with (first
      | refine wpList_ld29 (by kernel_rfl) _ (by rfl) _ _ _ hn nb (by rfl) ?_
      | (go_at_call 6; refine KE.mono ?_; rintro e w1 ⟨v1, rfl, an⟩; have HB : Hid (Below w.heap.size w w1) := ch B1 an.below; have KK := HK.out w1; clear an KE)
      | (go_at_call 9; refine (KN _ _).mono ?_; rintro e w' ⟨rfl, rfl⟩)
      | (go_at_call 5; refine KK.mono ?_; rintro e w2 ⟨rfl, b2⟩; have HB2 : Hid (Below w.heap.size w w2) := ch HB.out b2; clear b2 KK))
    go_ret
    exact ⟨rfl, HB2.out⟩
  | true =>
    obtain ⟨e1, e2⟩ := eE_yes hm
    have ni := ni_may hn hm
    have hde := dE_some (decN_enc hn hm)
    obtain ⟨b, eb⟩ : ∃ b, b = encN n := ⟨_, rfl⟩
    rw [e1, e2, ← eb] at KE
    have HD : Hid (decN KD b = some n ∧ eE n = 0 ∧ eN n = b ∧ b.length ≤ 1024) := ⟨by rw [eb]; exact decN_enc hn hm, e1, by rw [e2, eb], by rw [eb]; exact ni.len⟩
    obtain ⟨l, el⟩ : ∃ l, l = hsN n := ⟨_, rfl⟩
    have HKH : Hid (∀ {w' : World} {v : Value}, Vb w' v b → Calls Try.prog 11 #[v] w' fun e w'' => ∃ hv, e = .returned (.tuple #[hv, .int .i64 0]) ∧ Hl w'.heap.size w'' hv l ∧ Below w'.heap.size w' w'') := fun {w' v} k => by
      have q := hashes_any k
      unfold HsPst at q
      rw [eb, hde.1, hde.2, ← el] at q
      exact q
    obtain ⟨S, eS⟩ : ∃ S, S = sB b := ⟨_, rfl⟩
    have HCV : Hid (∀ {w' : World} {v : Value}, Vb w' v b → (convert 22 9 v).run Try.prog w' = .ok (.string S) w') := fun k => by rw [eS]; exact conv_vb k
    clear e1 e2 ni hde eb el eS hm
    go_enter Try.func4, Try.ntmps4
    go_upto_region 12 with (first
      | refine wpList_ld29 (by kernel_rfl) _ (by rfl) _ _ _ hn nb (by rfl) ?_
      | refine wpList_ld29 (by kernel_rfl) _ (by rfl) _ _ _ hn nbk (by rfl) ?_
      | (go_at_call 6; refine KE.mono ?_; rintro e w1 ⟨v1, rfl, an⟩; obtain ⟨aE, cE, rfl⟩ := an.form; have HA : Hid (Ans (w.alloc (.cells (nc n u).toArray 29)) w1 (.slice aE b.length cE) b) := an; have cvb := HCV.out an.vb; have KH := HKH.out an.vb; clear an KE nb)
      | (go_at_call 9; refine (KN _ _).mono ?_; rintro e w' ⟨rfl, rfl⟩)
      | (go_at_call 11; refine KH.mono ?_; rintro e w2 ⟨hv, rfl, hl, b2⟩; obtain ⟨aH, cH, rfl⟩ := own_slice hl.own; have HH : Hid (Hl w1.heap.size w2 (.slice aH l.length cH) l ∧ Below w1.heap.size w1 w2) := ⟨hl, b2⟩; have own0 := World.ownsRow_lit (base := w2.heap.size) (e := 24) (size := 32) w2 #[] 0 (Nat.le_refl _) (by decide) rfl; have hlA := hl.keep (below_alloc w2 (.cells #[] 24)); clear hl b2 KH cvb)
      | (refine wpList_append_hl (by rfl) _ _ (by rfl) w2.heap.size w1.heap.size _ _ l (by rfl) own0 (by rfl) hlA (below_alloc w2 _).size ?_; intro v3 w3 hl3 gr3; obtain ⟨aO, cO, rfl⟩ := own_slice hl3.own; have HO : Hid (Hl w2.heap.size w3 (.slice aO l.length cO) l ∧ Below w2.heap.size w2 w3) := ⟨hl3, (below_alloc w2 _).trans (grown_below gr3 own0 (Nat.le_refl _) (below_alloc w2 _).size)⟩; have KD1 := ndec_some (Rel.keep HA.out.vb (ch HH.out.2 HO.out.2)) HD.out.1; clear hl3 gr3 own0 hlA)
      | (go_at_call 8; refine KD1.mono ?_; rintro e w4 ⟨um, rfl, no4, b4⟩; have one4 := no4.inn.one; have nbm := nb_new hn w4 um; have HM : Hid (Nout w3.heap.size w4 n um ∧ Below w3.heap.size w3 w4 ∧ Nb (w4.alloc (.cells (nc n um).toArray 29)) w4.heap.size n um) := ⟨no4, b4, nbm⟩; have KD2 := ndec_some (Rel.keep HA.out.vb (ch (ch (ch HH.out.2 HO.out.2) b4) (below_alloc w4 (.cells (nc n um).toArray 29)))) HD.out.1; clear no4 b4 KD1 nbm)
      | refine wpList_st29 (by kernel_rfl) _ _ (by rfl) n nz um uz hn nz_w one4 (by rfl) (by rfl) ?_
      | (go_at_call 8; refine KD2.mono ?_; rintro e w5 ⟨uk, rfl, no5, b5⟩; have one5 := no5.inn.one; have nbk0 := nb_new hn w5 uk; have HKK : Hid (Nout (w4.alloc (.cells (nc n um).toArray 29)).heap.size w5 n uk ∧ Below (w4.alloc (.cells (nc n um).toArray 29)).heap.size (w4.alloc (.cells (nc n um).toArray 29)) w5 ∧ Nb (w5.alloc (.cells (nc n uk).toArray 29)) w5.heap.size n uk) := ⟨no5, b5, nbk0⟩; have nb := HM.out.2.2.keep (ch b5 (below_alloc w5 (.cells (nc n uk).toArray 29))); have nbk := nbk0; have KS := same_loop (n := n) (m := n) ((HM.out.1.inn.keep (ch (ch (below_alloc w4 (.cells (nc n um).toArray 29)) b5) (below_alloc w5 (.cells (nc n uk).toArray 29))))) (no5.inn.keep (below_alloc w5 (.cells (nc n uk).toArray 29))); rw [decide_eq_true rfl] at KS; clear no5 b5 KD2 nbk0)
      | refine wpList_st29 (by kernel_rfl) _ _ (by rfl) n nz uk uz hn nz_w one5 (by rfl) (by rfl) ?_
      | (go_at_call 10; refine KS.mono ?_; rintro e w6 ⟨rfl, b6⟩; have H6 : Hid (Below (w5.alloc (.cells (nc n uk).toArray 29)).heap.size (w5.alloc (.cells (nc n uk).toArray 29)) w6) := b6; have nb := HM.out.2.2.keep (ch (ch HKK.out.2.1 (below_alloc _ _)) b6); have KE2 := nencode_any ((HM.out.1.inn.keep (ch (ch (ch (below_alloc w4 (.cells (nc n um).toArray 29)) HKK.out.2.1) (below_alloc w5 (.cells (nc n uk).toArray 29))) b6))); rw [HD.out.2.1, HD.out.2.2.1] at KE2; clear b6 KS nbk)
      | (go_at_call 6; refine KE2.mono ?_; rintro e w7 ⟨vc, rfl, anc⟩; obtain ⟨aC, cC, rfl⟩ := anc.form; have HC : Hid (Ans w6 w7 (.slice aC b.length cC) b) := anc; clear anc KE2 nb))
    -- sizes
    have z1 := HA.out.below.size
    have z2 := HH.out.2.size
    have z3 := HO.out.2.size
    have z4 := HM.out.2.1.size
    have z5 := HKK.out.2.1.size
    have z6 := H6.out.size
    have z7 := HC.out.below.size
    have z0 := HW.out.2.2.2
    rw [World.size_alloc] at z5 z6
    have HZ : Hid (w.heap.size + 1 ≤ w1.heap.size ∧ w1.heap.size ≤ w2.heap.size ∧ w2.heap.size ≤ w3.heap.size ∧ w3.heap.size ≤ w4.heap.size ∧ w4.heap.size + 1 ≤ w5.heap.size ∧ w5.heap.size + 1 ≤ w6.heap.size ∧ w6.heap.size ≤ w7.heap.size) := ⟨by omega, z2, z3, z4, z5, z6, z7⟩
    clear z0 z1 z2 z3 z4 z5 z6 z7
    -- from where things were made up to w7
    have C57 : Below (w5.alloc (.cells (nc n uk).toArray 29)).heap.size (w5.alloc (.cells (nc n uk).toArray 29)) w7 := ch H6.out HC.out.below
    have C47 : Below (w4.alloc (.cells (nc n um).toArray 29)).heap.size (w4.alloc (.cells (nc n um).toArray 29)) w7 := ch (ch HKK.out.2.1 (below_alloc _ _)) C57
    have C37 : Below w3.heap.size w3 w7 := ch (ch HM.out.2.1 (below_alloc _ _)) C47
    have C27 : Below w2.heap.size w2 w7 := ch HO.out.2 C37
    have C17 : Below w1.heap.size w1 w7 := ch HH.out.2 C27
    have C07 : Below (w.alloc (.cells (nc n u).toArray 29)).heap.size (w.alloc (.cells (nc n u).toArray 29)) w7 := ch HA.out.below C17
    have nb7 := HM.out.2.2.keep C47
    have KL := lists_any (w := w7) hn HM.out.1.inn.sls
    have HC7 : Hid (Below (w5.alloc (.cells (nc n uk).toArray 29)).heap.size (w5.alloc (.cells (nc n uk).toArray 29)) w7 ∧ Below (w4.alloc (.cells (nc n um).toArray 29)).heap.size (w4.alloc (.cells (nc n um).toArray 29)) w7 ∧ Below w3.heap.size w3 w7 ∧ Below w2.heap.size w2 w7 ∧ Below w1.heap.size w1 w7 ∧ Below (w.alloc (.cells (nc n u).toArray 29)).heap.size (w.alloc (.cells (nc n u).toArray 29)) w7) := ⟨C57, C47, C37, C27, C17, C07⟩
    obtain ⟨i0, hi0, hz0, hz1, hz2⟩ := info_parts infoB
    have HI0 : Hid (Try.prog.info? 22 = some i0 ∧ i0.zero = some nilS ∧ i0.size = 1 ∧ i0.bytes = 24) := ⟨hi0, hz0, hz1, hz2⟩
    clear hi0 hz0 hz1 hz2 C57 C47 C37 C27 C17 C07
    have HF9 : Hid (∀ {w9 w10 : World} {al : Option Addr} {cl : Nat}, Below w7.heap.size w7 w9 → w9.ownsRow w7.heap.size 22 1 (.slice al 20 cl) 20 (lsV um ++ [.slice aC b.length cC]) → Turn (fun g => ∃ v ∈ lsV um ++ [.slice aC b.length cC], v.ownBlock = some g) w9 w10 → ∀ g, g < w7.heap.size → ¬ (w3.heap.size ≤ g ∧ g < w4.heap.size) → ¬ (w6.heap.size ≤ g) → w10.heap[g]? = w7.heap[g]?) := fun {w9 w10 al cl} k9 _ t10 g hg h1 h2 => by
      rw [t10.block g (Nat.lt_of_lt_of_le hg k9.size) (fun ⟨x, hx, hgx⟩ => by
        rcases List.mem_append.1 hx with q | q
        · obtain ⟨i, hi, rfl⟩ := List.mem_map.1 q
          have := (HM.out.1.at_ (by simpa using hi)).1.lt g hgx
          exact h1 this
        · rw [List.mem_singleton.1 q] at hgx
          have := (HC.out.own.lt g hgx).1
          exact h2 this), k9.block g hg]
    have HAP : Hid (∀ {w9 : World} {al : Option Addr} {cl : Nat}, Below w7.heap.size w7 w9 → w9.ownsRow w7.heap.size 22 1 (.slice al 20 cl) 20 (lsV um ++ [.slice aC b.length cC]) → Calls Try.prog 12 #[.slice al 20 cl] w9 fun e w' => e = .returned (.bool true) ∧ Turn (fun g => ∃ v ∈ lsV um ++ [.slice aC b.length cC], v.ownBlock = some g) w9 w') := fun {w9 al cl} k9 hl9 => by
      have z := HZ.out
      have hm9 : Nout w3.heap.size w9 n um := HM.out.1.step (Nat.le_refl _) (fun g g1 g2 => by rw [k9.block g (by omega), HC7.out.2.1.block g (by rw [World.size_alloc]; omega), heap_alloc_old _ _ g2])
      have hc9 := own_same HC.out.own (w' := w9) (fun g hg => k9.block g (HC.out.own.lt g hg).2)
      refine apart_lists hl9 hm9 hc9 HC.out.byt (by have := HD.out.2.2.2; omega) (fun i hi g hg hg2 => ?_)
      have q1 := (HM.out.1.at_ hi).1.lt g hg
      have q2 := (HC.out.own.lt g hg2).1
      omega
    go_upto_region 14 with (first
      | refine wpList_ld29 (by kernel_rfl) _ (by rfl) _ _ _ hn nb7 (by rfl) ?_
      | refine wpList_ld29 (by kernel_rfl) _ (by rfl) _ _ _ hn nbk (by rfl) ?_
      | refine wpList_ld29 (by kernel_rfl) _ (by rfl) _ _ _ hn nbn (by rfl) ?_
      | (go_at_call 13; refine KL.mono ?_; rintro e w8 ⟨aL, cL, rfl, hl8, b8⟩; have H8 : Hid (w8.ownsRow w7.heap.size 22 1 (.slice aL 19 cL) 19 (lsV um) ∧ Below w7.heap.size w7 w8) := ⟨hl8, b8⟩; have ownA := own_same hl8 (w' := w8.alloc (.cells #[.slice aC b.length cC] 22)) (fun g hg => heap_alloc_old _ _ (hl8.lt g hg).2); have ls8 := b8.size; clear hl8 b8 KL nb7)
      | (refine wpList_append_lies _ (by rfl) (.tmp 69) (.tmp 71) 44 (by rfl) w7.heap.size 22 i0 nilS 1 24 Try.underlying44 HI0.out.1 HI0.out.2.1 HI0.out.2.2.1 HI0.out.2.2.2 (by rfl) (by decide) (.slice aL 19 cL) 19 (lsV um) (by rfl) ownA ⟨w8.heap.size, 0, none⟩ 1 1 [.slice aC b.length cC] (by rfl) (by rfl) (World.news_of_block (w := w8.alloc (.cells #[.slice aC b.length cC] 22)) (B := w8.heap.size) (cs := #[.slice aC b.length cC]) (t := 22) (fr := (0, 0)) (heap_alloc_new _ _)) (by simp [Value.oneCell']) (by decide) (by unfold maxLen; omega) (by omega) (Nat.le_trans ls8 (below_alloc w8 _).size) _ (by rfl) ?_; intro g9 cap9 w9 own9 gr9 at9 lt9; have H9 : Hid (w9.ownsRow w7.heap.size 22 1 (.slice (some ⟨g9, 0, none⟩) 20 cap9) 20 (lsV um ++ [.slice aC b.length cC]) ∧ Below w7.heap.size w7 w9) := ⟨own9, H8.out.2.trans (own_below H8.out.1 gr9 (Nat.le_refl _) ls8)⟩; have KA := HAP.out H9.out.2 H9.out.1; clear own9 gr9 at9 lt9 ownA)
      | (go_at_call 12; refine KA.mono ?_; rintro e w10 ⟨rfl, t10⟩; have H10 : Hid (∀ g, g < w7.heap.size → ¬ (w3.heap.size ≤ g ∧ g < w4.heap.size) → ¬ (w6.heap.size ≤ g) → w10.heap[g]? = w7.heap[g]?) := HF9.out H9.out.2 H9.out.1 t10; have T10 : Hid (w7.heap.size ≤ w10.heap.size ∧ w10.os = w7.os ∧ w10.tape = w7.tape ∧ w10.output = w7.output) := ⟨Nat.le_trans H9.out.2.size t10.size, t10.os.trans H9.out.2.os, t10.tape.trans H9.out.2.tape, t10.output.trans H9.out.2.output⟩; have vb10 : Vf (fun k => (w.alloc (.cells (nc n u).toArray 29)).heap.size ≤ k ∧ k < w1.heap.size) w10 (.slice aE b.length cE) b := HA.out.vf.same (fun i hi hl => (H10.out i (by have := HZ.out; omega) (by have := HZ.out; omega) (by have := HZ.out; omega)).trans (HC7.out.2.2.2.2.1.block i hl)); have cv10 := HCV.out vb10.vb; have nk10 : Nf (fun k => (w4.alloc (.cells (nc n um).toArray 29)).heap.size ≤ k ∧ k < w5.heap.size) w10 n uk := HKK.out.1.nf.same (fun i hi hl => (H10.out i (by have := HZ.out; omega) (by have := HZ.out; rw [World.size_alloc] at hi; omega) (by have := HZ.out; omega)).trans ((HC7.out.1.block i (by rw [World.size_alloc]; omega)).trans (heap_alloc_old _ _ hl))); have nn10 : Nf (fun k => k < w.heap.size) w10 n u := HW.out.1.nf.same (fun i hi hl => (H10.out i (by have := HZ.out; omega) (by have := HZ.out; omega) (by have := HZ.out; omega)).trans ((HC7.out.2.2.2.2.2.block i (by have := HW.out.2.2.2; omega)).trans (HW.out.2.2.1.block i hl))); have nbk := HKK.out.2.2.same hn ((H10.out w5.heap.size (by have := HZ.out; omega) (by have := HZ.out; omega) (by have := HZ.out; omega)).trans (HC7.out.1.block w5.heap.size (by rw [World.size_alloc]; omega))); have nbn := HW.out.2.1.same hn ((H10.out w.heap.size (by have := HZ.out; omega) (by have := HZ.out; omega) (by have := HZ.out; omega)).trans (HC7.out.2.2.2.2.2.block w.heap.size (by have := HW.out.2.2.2; omega))); have KS2 := same_loop (n := n) (m := n) nk10.inn nn10.inn; rw [decide_eq_true rfl] at KS2; clear t10 KA vb10 nk10 nn10)
      | (go_at_call 10; refine KS2.mono ?_; rintro e w11 ⟨rfl, b11⟩; have H11 : Hid (Below w10.heap.size w10 w11) := b11; clear b11 KS2 cv10 nbk nbn))
    have HGH : Hid (∀ g, aH = some ⟨g, 0, none⟩ → w1.heap.size ≤ g ∧ g < w2.heap.size) := fun g e => HH.out.1.own.lt g (by rw [e]; rfl)
    have HHW : Hid (∀ i, i < l.length → ∃ g, aH = some ⟨g, 0, none⟩ ∧ w11.there g 0 (l.length * 32)) := fun i hi => by
      rcases HH.out.1.at_ with ⟨-, e2⟩ | ⟨g, c, e, hB, hg, -, ht⟩
      · rw [e2] at hi; simp at hi
      · injection e with e1
        have z := HZ.out
        have z2 := T10.out.1
        exact ⟨g, e1, there_same ht (by rw [H11.out.block g (by omega), H10.out g (by omega) (by omega) (by omega), HC7.out.2.2.2.1.block g hg])⟩
    have HL17 : Hid (l.length ≤ 17) := HH.out.1.len
    have li : (l.length : Int) < 100 := by have := HL17.out; omega
    go_wp2_with fail
    go_loopg [89] l.length (fun gg k wr => ∃ (i : Nat), i ≤ l.length ∧ gg = l.length - i ∧ k = .int .i64 i ∧ Turn (fun g => aH = some ⟨g, 0, none⟩) w11 wr ∧ (i < l.length → ∃ g, aH = some ⟨g, 0, none⟩ ∧ wr.there g 0 (l.length * 32)))
    case atStart => exact ⟨0, by omega, rfl, rfl, Turn.refl _ _, HHW.out 0⟩
    case round =>
      obtain ⟨i, hi, rfl, rfl, ht, hth⟩ := hrel
      by_cases hin : i < l.length
      · have i1 : (i : Int) < l.length := by omega
        obtain ⟨g, rfl, hg⟩ := hth hin
        have th := there_sub hg (show i * 32 + 32 ≤ l.length * 32 by omega)
        have HT : Hid (Turn (fun k => (some ⟨g, 0, none⟩ : Option Addr) = some ⟨k, 0, none⟩) w11 wr ∧ wr.there g 0 (l.length * 32)) := ⟨ht, hg⟩
        obtain ⟨sq, sq32, bd⟩ : ∃ s : List Nat, s.length = 32 ∧ Try.prog.built 24 [(0, .int .u8 1), (1, .int .u8 2), (2, .int .u8 3)] = some (bv s).toArray := ⟨hq, hq_len, built24q⟩
        clear ht hg hth HGH HHW H11 H10 T10 HKH HCV HAP HF9 HC7 HZ HM HKK HC HO HH HA HW HD HI0 H8 H9 H6
        go_wp2_with (first
          | refine wpList_bdL (by kernel_rfl) _ _ (by rfl) _ bd ?_
          | refine wpList_st24m (by kernel_rfl) _ _ (by rfl) g (i * 32) sq sq32 th (by rfl) (by rfl) ?_)
        go_roundg (l.length - (i + 1))
        case measure => omega
        case rel => exact ⟨i + 1, hin, rfl, by go_num, HT.out.1.trans (turn_setCells (F := fun k => (some ⟨g, 0, none⟩ : Option Addr) = some ⟨k, 0, none⟩) rfl _ _ _) (fun _ q => Or.inl q), fun _ => ⟨g, rfl, World.there_setCells HT.out.2 _ _ _⟩⟩
      · have i1 : ¬ (i : Int) < l.length := by omega
        have H12 : Hid (∀ g, g < w7.heap.size → ¬ (w3.heap.size ≤ g ∧ g < w4.heap.size) → ¬ (w6.heap.size ≤ g) → ¬ (w1.heap.size ≤ g ∧ g < w2.heap.size) → wr.heap[g]? = w7.heap[g]?) := fun g h1 h2 h3 h4 => by
          have z := T10.out.1
          have z2 := H11.out.size
          rw [ht.block g (by omega) (fun e => h4 (HGH.out g e)), H11.out.block g (by omega), H10.out g h1 h2 h3]
        have H0R : Hid (Below w.heap.size w wr) := by
          have z := T10.out
          have z2 := H11.out
          have z3 := HZ.out
          have c := ch HW.out.2.2.1 HC7.out.2.2.2.2.2
          refine ⟨ht.os.trans (z2.os.trans (z.2.1.trans c.os)), ht.tape.trans (z2.tape.trans (z.2.2.1.trans c.tape)), ht.output.trans (z2.output.trans (z.2.2.2.trans c.output)), ?_, fun g hg => ?_⟩
          · have a1 := ht.size
            have a2 := z2.size
            have a3 := z.1
            omega
          · rw [H12.out g (by omega) (by omega) (by omega) (by omega), c.block g hg]
        have HSZ : Hid (w7.heap.size ≤ wr.heap.size) := by
          have a1 := ht.size
          have a2 := H11.out.size
          have a3 := T10.out.1
          have r : w7.heap.size ≤ wr.heap.size := by omega
          exact r
        have vb12 : Vf (fun k => (w.alloc (.cells (nc n u).toArray 29)).heap.size ≤ k ∧ k < w1.heap.size) wr (.slice aE b.length cE) b := HA.out.vf.same (fun j hj hl => (H12.out j (by have := HZ.out; omega) (by have := HZ.out; omega) (by have := HZ.out; omega) (by have := HZ.out; omega)).trans (HC7.out.2.2.2.2.1.block j hl))
        have KH2 := HKH.out vb12.vb
        have HN12 : Hid (Nf (fun k => (w4.alloc (.cells (nc n um).toArray 29)).heap.size ≤ k ∧ k < w5.heap.size) wr n uk) := HKK.out.1.nf.same (fun j hj hl => (H12.out j (by have := HZ.out; omega) (by have := HZ.out; rw [World.size_alloc] at hj; omega) (by have := HZ.out; omega) (by have := HZ.out; rw [World.size_alloc] at hj; omega)).trans ((HC7.out.1.block j (by rw [World.size_alloc]; omega)).trans (heap_alloc_old _ _ hl)))
        have HB12 : Hid (Nb wr w5.heap.size n uk) := HKK.out.2.2.same hn ((H12.out w5.heap.size (by have := HZ.out; omega) (by have := HZ.out; omega) (by have := HZ.out; omega) (by have := HZ.out; omega)).trans (HC7.out.1.block w5.heap.size (by rw [World.size_alloc]; omega)))
        have HO12 : Hid (Hl w2.heap.size wr (.slice aO l.length cO) l) := (HO.out.1.keep HC7.out.2.2.1).same (fun g hg => by
          have z := HZ.out
          have q := HO.out.1.own.lt g hg
          exact H12.out g (by omega) (by omega) (by omega) (by omega))
        clear ht hth vb12 HGH HHW H11 H10 T10 HKH HAP HF9 HC7 HZ HM HKK HC HO HH HA HW HI0 H8 H9 H6 H12 HSZ
        go_wp2_with (first
          | refine wpList_ld29 (by kernel_rfl) _ (by rfl) _ _ _ hn nbk (by rfl) ?_
          | (go_at_call 11; refine KH2.mono ?_; rintro e w13 ⟨hv, rfl, hl13, b13⟩; obtain ⟨aX, cX, rfl⟩ := own_slice hl13.own; have H13 : Hid (Hl wr.heap.size w13 (.slice aX l.length cX) l ∧ Below wr.heap.size wr w13) := ⟨hl13, b13⟩; have nbk := HB12.out.keep b13; have KE3 := nencode_any (HN12.out.inn.keep b13); rw [HD.out.2.1, HD.out.2.2.1] at KE3; clear hl13 b13 KH2)
          | (go_at_call 6; refine KE3.mono ?_; rintro e w14 ⟨vd, rfl, and⟩; obtain ⟨aD, cD, rfl⟩ := and.form; have H14 : Hid (Ans w13 w14 (.slice aD b.length cD) b) := and; have KS3 := sameH_any (H13.out.1.keep and.below) ((HO12.out.keep H13.out.2).keep and.below); clear and KE3 nbk)
          | (go_at_call 14; refine KS3.mono ?_; rintro e w15 ⟨rfl, b15⟩; have H15 : Hid (Below w14.heap.size w14 w15) := b15; have cvd := HCV.out (Rel.keep H14.out.vb b15); have KK := HK.out w15; clear b15 KS3)
          | (go_at_call 5; refine KK.mono ?_; rintro e w16 ⟨rfl, b16⟩; have HFin : Hid (Below w.heap.size w w16) := ch (ch (ch (ch H0R.out H13.out.2) H14.out.below) H15.out) b16; clear b16 KK))
        go_ret
        exact ⟨rfl, HFin.out⟩
end Go.Proofs.Ytpiinkfcaoaffaa
