import Derived.Test.YtpiinkfcaoaffaaNozz
/-
  Decode.
-/
namespace Go.Proofs.Ytpiinkfcaoaffaa
open Go.RowKit
/-- an item that was read: its items, the strings among them -/
theorem Own.its {w : World} {lo hi : Nat} {x : It} {vb vi : Value} (h : Own w lo hi x vb vi) : ∃ a blk off c, (∃ a n c, vb = .slice a n c) ∧ vi = .slice a x.xs.length c ∧ Its Vb w x.xs a blk off ∧
    ∀ (i : Nat) (y : It) (v : Value), x.xs[i]? = some y → w.cell? ⟨blk, off + i * 3 + 1, none⟩ = some v → y.l = false → w.ownsRow lo 5 1 v y.b.length (bv y.b) ∧ (∀ q, v.ownBlock = some q → q < hi) ∧ y.b.length ≤ 1048576 := by
  have hL := h.lies
  cases h with
  | str hb hlt ok hl =>
    obtain ⟨a', c', a, c, blk, off, e1, e2, hR, hI⟩ := hL.opened
    exact ⟨a, blk, off, c, ⟨_, _, _, e1⟩, e2, hI, fun i y v hy => by simp [It.xs] at hy⟩
  | @lst lo hi xs vi ys s t row hlt hl hn h1 h2 h3 h4 hb hr =>
    obtain ⟨a', c', a, c, blk, off, e1, e2, hR, hI⟩ := hL.opened
    refine ⟨a, blk, off, c, ⟨_, _, _, e1⟩, e2, hI, fun i y v hy hv hyl => ?_⟩
    have hy' : xs[i]? = some y := hy
    have hi' := (List.getElem?_eq_some_iff.1 hy').1
    have ha := hI.ha (by omega)
    rcases row.2 with ⟨e, h0⟩ | ⟨g, cap, cur, e, _⟩
    · rw [e] at e2
      injection e2 with e3
      rw [← e3] at ha
      cases ha
    · rw [e] at e2
      injection e2 with e3
      rw [← e3] at ha
      injection ha with ha
      injection ha with ga gb gc
      obtain ⟨⟨zl, zb, zi⟩, hz⟩ : ∃ z, ys[i]? = some z := ⟨_, List.getElem?_eq_getElem (by omega)⟩
      obtain ⟨-, k2, -⟩ := fl_at hz
      have c2 := row.cells (g := g) (by rw [e]; rfl) _ _ k2
      rw [add_flat] at c2
      rw [← ga, ← gb, Nat.zero_add, c2] at hv
      obtain rfl : zb = v := Option.some.inj hv
      have ho := hr i y _ hy' hz
      dsimp only at ho
      have a1 := h1 i hi'
      have a3 := h3 i hi'
      cases ho with
      | str hb' hlt' ok' hl' => exact ⟨own_rebase hb' (fun q hq => by have := (hb'.lt q hq).1; omega), fun q hq => by have := hlt' q hq; omega, hl'⟩
      | lst => simp [It.l] at hyl
theorem decX_eq (s : List Nat) : (∃ p e, dec s = .bad p e ∧ decE s = e ∧ decX s = .mk false [] []) ∨ ∃ x, dec s = .ok x ∧ decX s = x ∧ decE s = 0 := by
  unfold decE decX
  cases h : dec s with
  | bad p e => exact Or.inl ⟨p, e, rfl, rfl, rfl⟩
  | ok x => exact Or.inr ⟨x, rfl, rfl, rfl⟩
theorem rdHead_bad {s : List Nat} {p e m c : Nat} (h : rdHead s p e m = .bad c) : c ≠ 0 := by
  unfold rdHead at h
  split at h
  · split at h
    · cases h; decide
    · cases h
  · split at h
    · cases h; decide
    · split at h
      · cases h; decide
      · split at h
        · cases h; decide
        · split at h
          · cases h; decide
          · split at h
            · cases h; decide
            · cases h
theorem rdL_bad {f : Nat → Nat → Rd} (hf : ∀ a e p c, f a e = .bad p c → c ≠ 0) : ∀ n a e acc p c, rdL f n a e acc = .bad p c → c ≠ 0
  | 0, a, e, acc, p, c, h => by rw [rdL] at h; cases h
  | n + 1, a, e, acc, p, c, h => by
    rw [rdL] at h
    split at h
    · split at h
      · rename_i q d hq
        cases h
        exact hf _ _ _ _ hq
      · exact rdL_bad hf n _ _ _ p c h
    · cases h
theorem rd_bad (s : List Nat) : ∀ (d p e q c : Nat), rd s d p e = .bad q c → c ≠ 0 := by
  intro d
  induction d with
  | zero =>
    intro p e q c h
    rw [rd_eq] at h
    split at h
    · cases h; decide
    · split at h
      · cases h
      · split at h
        · split at h
          · rename_i hq
            cases h
            exact rdHead_bad hq
          · split at h
            · cases h; decide
            · cases h
        · split at h
          · cases h; decide
          · omega
  | succ d ih =>
    intro p e q c h
    rw [rd_eq] at h
    split at h
    · cases h; decide
    · split at h
      · cases h
      · split at h
        · split at h
          · rename_i hq
            cases h
            exact rdHead_bad hq
          · split at h
            · cases h; decide
            · cases h
        · split at h
          · omega
          · split at h
            · rename_i hq
              cases h
              exact rdHead_bad hq
            · exact rdL_bad (fun a e p c h => ih a e p c h) _ _ _ _ _ _ h
theorem dec_bad {s : List Nat} {p e : Nat} (h : dec s = .bad p e) : e ≠ 0 := by
  unfold dec at h
  split at h
  · cases h; decide
  · split at h
    · rename_i hq
      cases h
      exact rd_bad _ _ _ _ _ _ hq
    · split at h
      · cases h; decide
      · cases h
/-- a node with its value -/
theorem Nout.of {B lo hi : Nat} {w : World} {n : Nd} {u : Nv} (hW : n.W) (hm : Nmade B w n u) (hv : w.ownsRow lo 5 1 u.v n.val.length (bv n.val)) (hl : n.val.length ≤ 1048576) (hlt : ∀ q, u.v.ownBlock = some q → q < hi) (hB : hi ≤ B) (hlo : lo ≤ B) : Nout lo w n u := by
  have rb : ∀ {v : Value} {m : Nat} {xs : List Value}, w.ownsRow B 5 1 v m xs → w.ownsRow lo 5 1 v m xs := fun ho => own_rebase ho (fun q hq => by have := (ho.lt q hq).1; omega)
  have low : ∀ j, j < 19 → j ≠ 1 → ∀ g, (u.at j).ownBlock = some g → B ≤ g := fun j hj j1 g hg => by
    match j with
    | 0 => exact (hm.p.lt g hg).1
    | 2 => exact (hm.x.lt g hg).1
    | j + 3 =>
      have hk : j < n.kids.length := by rw [hW.kids]; omega
      exact ((hm.k (List.getElem?_eq_getElem hk)).lt g hg).1
  refine ⟨hW, rb hm.p, hv, rb hm.x, fun hr => rb (hm.k hr), hm.lp, hl, hm.lx, hm.lk, fun i j hi' hj hij g hg => ?_⟩
  by_cases i1 : i = 1
  · subst i1
    intro h
    have := low j hj (by omega) g h
    have := hlt g hg
    omega
  · by_cases j1 : j = 1
    · subst j1
      intro h
      have := low i hi' i1 g hg
      have := hlt g h
      omega
    · exact hm.apart i j hi' hj hij i1 j1 g hg
theorem Nout.step {B B' : Nat} {w w' : World} {n : Nd} {u : Nv} (h : Nout B w n u) (hB : B' ≤ B) (hs : ∀ g, B ≤ g → g < w.heap.size → w'.heap[g]? = w.heap[g]?) : Nout B' w' n u :=
  have rb : ∀ {v : Value} {m : Nat} {xs : List Value}, w.ownsRow B 5 1 v m xs → w'.ownsRow B' 5 1 v m xs := fun ho => own_rebase (own_same ho (fun g hg => hs g (ho.lt g hg).1 (ho.lt g hg).2)) (fun q hq => by have := (ho.lt q hq).1; omega)
  ⟨h.W, rb h.p, rb h.v, rb h.x, fun hr => rb (h.k hr), h.lp, h.lv, h.lx, h.lk, h.apart⟩
theorem keep2 {w1 w3 : World} {g : Nat} {o o1 o2 : Obj} (h : w1.heap[g]? = some o) (b3 : Below (w1.alloc o1).heap.size (w1.alloc o1) w3) : (w3.alloc o2).heap[g]? = some o := by
  have q1 := (Array.getElem?_eq_some_iff.1 h).1
  have q2 := b3.size
  rw [World.size_alloc] at q2
  rw [heap_alloc_old _ _ (by omega), b3.block _ (by rw [World.size_alloc]; omega), heap_alloc_old _ _ q1]
  exact h
set_option maxRecDepth 100000 in
set_option maxHeartbeats 3200000 in
theorem dec_step (s : List Nat) (ih : ∀ t : List Nat, t.length < s.length → DecOK t) : DecOK s := by
  intro w v h
  have hz := zv29
  have hs : ∀ x ∈ s, x < 256 := by obtain ⟨_, _, _, _, _, hv, _⟩ := h; exact (vw_ok hv).2
  have B0 : Below w.heap.size w (w.alloc (.cells (nc nz uz).toArray 29)) := below_alloc _ _
  obtain ⟨a, b, off, c, rfl, hv, hc, -, hl⟩ := h
  have K := decode_any _ a b off c s (hv.below B0) hc (by omega)
  have g0 := heap_alloc_new w (.cells (nc nz uz).toArray 29)
  have HG : Hid ((w.alloc (.cells (nc nz uz).toArray 29)).heap[w.heap.size]? = some (.cells (nc nz uz).toArray 29 (0, 0)) ∧ Below w.heap.size w (w.alloc (.cells (nc nz uz).toArray 29)) ∧ (w.alloc (.cells (nc nz uz).toArray 29)).heap.size = w.heap.size + 1) := ⟨g0, B0, by simp⟩
  clear hv hc g0 B0
  rcases decX_eq s with ⟨p, e, hd, hE, hX⟩ | ⟨x, hd, hX, hE⟩
  · have HN : Hid (decN KD s = none) := by show _ = _; unfold decN; rw [hd]
    have he : decE s ≠ 0 := by rw [hE]; exact dec_bad hd
    obtain ⟨de, ede⟩ : ∃ d, d = decE s := ⟨_, rfl⟩
    obtain ⟨dp', edp⟩ : ∃ d, d = decP s := ⟨_, rfl⟩
    obtain ⟨xl, exl⟩ : ∃ d, d = (decX s).l := ⟨_, rfl⟩
    have j0 : ((de : Int) != 0) = true := by simp; omega
    have j0b : ¬ (de : Int) = 0 := by omega
    unfold DecPost at K
    rw [← ede, ← edp, ← exl] at K
    clear hd hE hX ede edp he exl
    go_enter Try.func8, Try.ntmps8
    go_wp2_with (first
      | (go_at_call 18; refine K.mono ?_; rintro e' w1 ⟨vb, vi, rfl, ho, b1⟩; obtain ⟨a1, n1, k1, a2, n2, k2, rfl, rfl⟩ := ho.lies.form; have HB : Hid (Below w.heap.size w w1) := ch HG.out.2.1 b1; have g1 := (b1.block w.heap.size (by rw [HG.out.2.2]; omega)).trans HG.out.1; have g2 := (heap_alloc_old w1 (.cells #[.bool xl, .slice a1 n1 k1, .slice a2 n2 k2] 51) (Array.getElem?_eq_some_iff.1 g1).1).trans g1; have B2 : Hid (Below w.heap.size w (w1.alloc (.cells #[.bool xl, .slice a1 n1 k1, .slice a2 n2 k2] 51))) := ch HB.out (below_alloc _ _); clear b1 ho g1 K)
      | refine wpList_bd29 (by kernel_rfl) (by rfl) ?_
      | refine wpList_st29b (by kernel_rfl) _ _ (by rfl) w.heap.size nz nz uz uz nz_w nz_w (nin_zero w).one g2 (by rfl) (by rfl) ?_)
    have hr3 := setRow_heap (w1.alloc (.cells #[.bool xl, .slice a1 n1 k1, .slice a2 n2 k2] 51)) w.heap.size _ (nc nz uz).toArray _ _ g2
    refine bodyPost_ret (res2n rfl _ _ w.heap.size _ _ _ nz_w (rng_row hr3) rfl rfl) rfl ?_
    have e1 : dN s = nz := by unfold dN; rw [HN.out]; rfl
    have e2 : dE s = 70 := by unfold dE; rw [HN.out]; rfl
    exact ⟨uz, by rw [e1, e2]; rfl, by rw [e1]; exact nout_zero _ _, below_setRow B2.out (by omega) _⟩
  · have HD : Hid (dec s = .ok x) := hd
    have HX : Hid (decX s = x) := hX
    have HN0 : Hid (decN KD s = match itN x with | none => none | some n => if mayN KD n then some n else none) := by show _ = _; unfold decN; rw [hd]; rfl
    obtain ⟨d1, d2, d3, d4⟩ := dec_ok hs hd
    have HD2 : Hid (may x = true ∧ dp x ≤ 80 ∧ form x = s ∧ s.length ≤ 1048576) := ⟨d1, d2, d3, d4⟩
    obtain ⟨dp', edp⟩ : ∃ d, d = decP s := ⟨_, rfl⟩
    obtain ⟨xl, exl⟩ : ∃ d, d = x.l := ⟨_, rfl⟩
    have HL : Hid (xl = x.l) := exl
    unfold DecPost at K
    rw [hX, hE, ← edp, ← exl] at K
    clear hd hX hE d1 d2 d3 d4 edp exl
    cases hI : itN x with
    | none =>
      have HN : Hid (decN KD s = none) := by show _ = _; rw [HN0.out, hI]
      go_enter Try.func8, Try.ntmps8
      go_wp2_with (first
        | (go_at_call 18; refine K.mono ?_; rintro e' w1 ⟨vb, vi, rfl, ho, b1⟩; obtain ⟨a2, blk, off2, k2, ⟨a1, n1, k1, rfl⟩, rfl, hits, hval⟩ := ho.its; have HB : Hid (Below w.heap.size w w1 ∧ w1.heap[w.heap.size]? = some (.cells (nc nz uz).toArray 29 (0, 0))) := ⟨ch HG.out.2.1 b1, (b1.block w.heap.size (by rw [HG.out.2.2]; omega)).trans HG.out.1⟩; have KN := nodeOf_any (x := x) (vb := .slice a1 n1 k1) (c := k2) ⟨_, _, _, rfl⟩ (hits.keep (below_alloc w1 (.cells #[.bool xl, .slice a1 n1 k1, .slice a2 x.xs.length k2] 51))); rw [← HL.out] at KN; clear b1 ho hits hval K)
        | (go_at_call 19; refine KN.mono ?_; rintro e' w3 ⟨n, u, rfl, b3, nW, one, hm⟩; rw [hI]; have B3 : Hid (Below w.heap.size w (w3.alloc (.cells (nc n u).toArray 29))) := ch (ch (ch HB.out.1 (below_alloc _ _)) b3) (below_alloc _ _); have g3 := keep2 (o2 := .cells (nc n u).toArray 29) HB.out.2 b3; clear b3 hm KN)
        | refine wpList_st29 (by kernel_rfl) _ _ (by rfl) n nz u uz nW nz_w one (by rfl) (by rfl) ?_
        | refine wpList_bd29 (by kernel_rfl) (by rfl) ?_
        | refine wpList_st29b (by kernel_rfl) _ _ (by rfl) w.heap.size nz nz uz uz nz_w nz_w (nin_zero w).one g3 (by rfl) (by rfl) ?_)
      have hr3 := setRow_heap (w3.alloc (.cells (nc n u).toArray 29)) w.heap.size _ (nc nz uz).toArray _ _ g3
      refine bodyPost_ret (res2n rfl _ _ w.heap.size _ _ _ nz_w (rng_row hr3) rfl rfl) rfl ?_
      have e1 : dN s = nz := by unfold dN; rw [HN.out]; rfl
      have e2 : dE s = 70 := by unfold dE; rw [HN.out]; rfl
      exact ⟨uz, by rw [e1, e2]; rfl, by rw [e1]; exact nout_zero _ _, below_setRow B3.out (by omega) _⟩
    | some m =>
      have HI : Hid (itN x = some m) := hI
      have HNi := itN_ok HD2.out.1 HD2.out.2.1 (by rw [HD2.out.2.2.1]; exact HD2.out.2.2.2) (by rw [HD2.out.2.2.1]; exact hs) hI
      rw [HD2.out.2.2.1] at HNi
      have HCK : Hid (Nck m) := ⟨fun _ _ => ih _ HNi.2.2.1, fun r hr _ _ => ih _ (HNi.2.2.2 r hr)⟩
      have mW := HNi.1
      obtain ⟨q, eq⟩ : ∃ q, q = mayN KD m := ⟨_, rfl⟩
      have HQ : Hid (q = mayN KD m ∧ decN KD s = if q then some m else none) := ⟨eq, by rw [HN0.out, hI, eq]⟩
      clear HNi eq hI
      have KM : ∀ {w4 : World} {u : Nv}, Nin w4 m u → Calls Try.prog 15 #[.agg (nc m u).toArray] w4 fun e w' => e = .returned (.bool q) ∧ Below w4.heap.size w4 w' := fun h => by rw [HQ.out.1]; exact mayN_any h HCK.out
      have HKM : Hid (∀ {w4 : World} {u : Nv}, Nin w4 m u → Calls Try.prog 15 #[.agg (nc m u).toArray] w4 fun e w' => e = .returned (.bool q) ∧ Below w4.heap.size w4 w') := KM
      clear KM
      have C1 : Hid (∀ {w1 : World} {vb vi : Value}, Own w1 (w.alloc (.cells (nc nz uz).toArray 29)).heap.size w1.heap.size x vb vi → Below (w.alloc (.cells (nc nz uz).toArray 29)).heap.size (w.alloc (.cells (nc nz uz).toArray 29)) w1 → ∃ a1 n1 k1 a2 k2, vb = .slice a1 n1 k1 ∧ vi = .slice a2 x.xs.length k2 ∧ Calls Try.prog 19 #[iv xl (.slice a1 n1 k1) (.slice a2 x.xs.length k2)] (w1.alloc (.cells #[.bool xl, .slice a1 n1 k1, .slice a2 x.xs.length k2] 51)) (fun e w3 => ∃ u, e = .returned (.tuple #[.agg (nc m u).toArray, .bool true]) ∧ Nout (w.heap.size + 1) w3 m u ∧ Below w1.heap.size w1 w3)) := fun {w1 vb vi} ho b1 => by
        obtain ⟨a2, blk, off2, k2, ⟨a1, n1, k1, rfl⟩, rfl, hits, hval⟩ := ho.its
        refine ⟨a1, n1, k1, a2, k2, rfl, rfl, ?_⟩
        have ba := below_alloc w1 (.cells #[.bool xl, .slice a1 n1 k1, .slice a2 x.xs.length k2] 51)
        have KN := nodeOf_any (x := x) (vb := .slice a1 n1 k1) (c := k2) ⟨_, _, _, rfl⟩ (hits.keep ba)
        rw [← HL.out] at KN
        refine KN.mono ?_
        rintro e' w3 ⟨n, u, rfl, b3, nW, one, hm⟩
        obtain ⟨rfl, nm, i, y, v, hy, hcell, hnv⟩ := hm m HI.out
        have hs3 := b3.size
        rw [World.size_alloc] at hs3
        have b13 : Below w1.heap.size w1 w3 := ch ba b3
        refine ⟨u, by rw [HI.out]; rfl, ?_, b13⟩
        have sz := HG.out.2.2
        have sz1 := b1.size
        rcases hnv with ⟨h1, h2, h3⟩ | ⟨h1, h2⟩
        · obtain ⟨_, _, _, _, _, _, _, f1, _⟩ := hits.get i y hy
          rw [ba.cell (World.block_lt_of_cell? _ _ f1)] at hcell
          obtain ⟨o1, o2, o3⟩ := hval i y v hy hcell h3
          rw [h1.symm] at o1 o2
          rw [h2.symm] at o1 o3
          exact Nout.of (B := (w1.alloc (.cells #[.bool xl, .slice a1 n1 k1, .slice a2 x.xs.length k2] 51)).heap.size) (hi := w1.heap.size) nW nm (own_rebase (own_same o1 (fun g hg => b13.block g (o1.lt g hg).2)) (fun g hg => by have := (o1.lt g hg).1; omega)) o3 o2 (by rw [World.size_alloc]; omega) (by rw [World.size_alloc]; omega)
        · refine Nout.of (B := (w1.alloc (.cells #[.bool xl, .slice a1 n1 k1, .slice a2 x.xs.length k2] 51)).heap.size) (hi := w1.heap.size) nW nm ?_ ?_ ?_ (by rw [World.size_alloc]; omega) (by rw [World.size_alloc]; omega)
          · rw [h1, h2]; exact own_nil _ _
          · rw [h2]; simp
          · rw [h1]; exact fun q hq => by cases hq
      have HC : Hid (∀ {w3 : World} {u : Nv}, Nout (w.heap.size + 1) w3 m u → Nin (w3.alloc (.cells (nc m u).toArray 29)) m u) := fun h => h.inn.keep (below_alloc _ _)
      cases q with
      | false =>
        have HN : Hid (decN KD s = none) := by show _ = _; rw [HQ.out.2]; rfl
        go_enter Try.func8, Try.ntmps8
        go_wp2_with (first
          | (go_at_call 18; refine K.mono ?_; rintro e' w1 ⟨vb, vi, rfl, ho, b1⟩; obtain ⟨a1, n1, k1, a2, k2, rfl, rfl, KN⟩ := C1.out ho b1; have HB : Hid (Below w.heap.size w w1 ∧ w1.heap[w.heap.size]? = some (.cells (nc nz uz).toArray 29 (0, 0))) := ⟨ch HG.out.2.1 b1, (b1.block w.heap.size (by rw [HG.out.2.2]; omega)).trans HG.out.1⟩; clear b1 ho K)
          | (go_at_call 19; refine KN.mono ?_; rintro e' w3 ⟨u, rfl, no, b3⟩; have one := no.inn.one; have HB3 : Hid (Below w.heap.size w (w3.alloc (.cells (nc m u).toArray 29)) ∧ (w3.alloc (.cells (nc m u).toArray 29)).heap[w.heap.size]? = some (.cells (nc nz uz).toArray 29 (0, 0))) := ⟨ch (ch HB.out.1 b3) (below_alloc _ _), (heap_alloc_old _ _ (Nat.lt_of_lt_of_le (Array.getElem?_eq_some_iff.1 HB.out.2).1 b3.size)).trans ((b3.block _ (Array.getElem?_eq_some_iff.1 HB.out.2).1).trans HB.out.2)⟩; have KM := HKM.out (HC.out no); have nb := nb_new mW w3 u; clear no b3 KN)
          | refine wpList_st29 (by kernel_rfl) _ _ (by rfl) m nz u uz mW nz_w one (by rfl) (by rfl) ?_
          | refine wpList_ld29 (by kernel_rfl) _ (by rfl) _ _ _ mW nb (by rfl) ?_
          | (go_at_call 15; refine KM.mono ?_; rintro e' w5 ⟨rfl, b5⟩; have B5 : Hid (Below w.heap.size w w5) := ch HB3.out.1 b5; have g5 := (b5.block _ (Array.getElem?_eq_some_iff.1 HB3.out.2).1).trans HB3.out.2; clear b5 KM)
          | refine wpList_bd29 (by kernel_rfl) (by rfl) ?_
          | refine wpList_st29b (by kernel_rfl) _ _ (by rfl) w.heap.size nz nz uz uz nz_w nz_w (nin_zero w).one g5 (by rfl) (by rfl) ?_)
        have hr3 := setRow_heap w5 w.heap.size _ (nc nz uz).toArray _ _ g5
        refine bodyPost_ret (res2n rfl _ _ w.heap.size _ _ _ nz_w (rng_row hr3) rfl rfl) rfl ?_
        have e1 : dN s = nz := by unfold dN; rw [HN.out]; rfl
        have e2 : dE s = 70 := by unfold dE; rw [HN.out]; rfl
        exact ⟨uz, by rw [e1, e2]; rfl, by rw [e1]; exact nout_zero _ _, below_setRow B5.out (by omega) _⟩
      | true =>
        have HN : Hid (decN KD s = some m) := by show _ = _; rw [HQ.out.2]; rfl
        go_enter Try.func8, Try.ntmps8
        go_wp2_with (first
          | (go_at_call 18; refine K.mono ?_; rintro e' w1 ⟨vb, vi, rfl, ho, b1⟩; obtain ⟨a1, n1, k1, a2, k2, rfl, rfl, KN⟩ := C1.out ho b1; have HB : Hid (Below w.heap.size w w1 ∧ w1.heap[w.heap.size]? = some (.cells (nc nz uz).toArray 29 (0, 0))) := ⟨ch HG.out.2.1 b1, (b1.block w.heap.size (by rw [HG.out.2.2]; omega)).trans HG.out.1⟩; clear b1 ho K)
          | (go_at_call 19; refine KN.mono ?_; rintro e' w3 ⟨u, rfl, no, b3⟩; have one := no.inn.one; have HB3 : Hid (Below w.heap.size w (w3.alloc (.cells (nc m u).toArray 29)) ∧ (w3.alloc (.cells (nc m u).toArray 29)).heap[w.heap.size]? = some (.cells (nc nz uz).toArray 29 (0, 0)) ∧ Nout (w.heap.size + 1) w3 m u) := ⟨ch (ch HB.out.1 b3) (below_alloc _ _), (heap_alloc_old _ _ (Nat.lt_of_lt_of_le (Array.getElem?_eq_some_iff.1 HB.out.2).1 b3.size)).trans ((b3.block _ (Array.getElem?_eq_some_iff.1 HB.out.2).1).trans HB.out.2), no⟩; have KM := HKM.out (HC.out no); have nb := nb_new mW w3 u; clear no b3 KN)
          | refine wpList_st29 (by kernel_rfl) _ _ (by rfl) m nz u uz mW nz_w one (by rfl) (by rfl) ?_
          | refine wpList_ld29 (by kernel_rfl) _ (by rfl) _ _ _ mW nb (by rfl) ?_
          | refine wpList_ld29 (by kernel_rfl) _ (by rfl) _ _ _ mW nb5 (by rfl) ?_
          | (go_at_call 15; refine KM.mono ?_; rintro e' w5 ⟨rfl, b5⟩; have B5 : Hid (Below w.heap.size w w5 ∧ Below (w3.alloc (.cells (nc m u).toArray 29)).heap.size (w3.alloc (.cells (nc m u).toArray 29)) w5) := ⟨ch HB3.out.1 b5, b5⟩; have g5 := (b5.block _ (Array.getElem?_eq_some_iff.1 HB3.out.2.1).1).trans HB3.out.2.1; have nb5 := nb.keep b5; clear b5 KM nb)
          | refine wpList_st29b (by kernel_rfl) _ _ (by rfl) w.heap.size m nz u uz mW nz_w one g5 (by rfl) (by rfl) ?_)
        have hr3 := setRow_heap w5 w.heap.size _ (nc m u).toArray _ _ g5
        refine bodyPost_ret (res2n rfl _ _ w.heap.size _ _ _ mW (rng_row hr3) rfl rfl) rfl ?_
        have e1 : dN s = m := by unfold dN; rw [HN.out]; rfl
        have e2 : dE s = 0 := by unfold dE; rw [HN.out]; rfl
        refine ⟨u, by rw [e1, e2]; rfl, ?_, below_setRow B5.out.1 (by omega) _⟩
        rw [e1]
        refine HB3.out.2.2.step (by omega) (fun g g1 g2 => ?_)
        rw [setRow_other _ _ _ _ (by omega), B5.out.2.block g (by rw [World.size_alloc]; omega), heap_alloc_old _ _ g2]
theorem dec_ok_all : ∀ (k : Nat) (s : List Nat), s.length < k → DecOK s := by
  intro k
  induction k with
  | zero => intro s h; omega
  | succ k ih => exact fun s h => dec_step s (fun t ht => ih t (by omega))
/-- DECODE -/
theorem ndecode_any (s : List Nat) : DecOK s := dec_ok_all (s.length + 1) s (by omega)
end Go.Proofs.Ytpiinkfcaoaffaa
