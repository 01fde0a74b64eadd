import Derived.Test.YtadcbhjmbgenbaaFloe
/-
  cairnref07: loose, of two forms.
-/
namespace Go.Proofs.Ytadcbhjmbgenbaa
open Go.RowKit

theorem Vb.len {w : World} {v : Value} {s : List Nat} (h : Vb w v s) : (∀ x ∈ s, x < 256) ∧ s.length ≤ 140737488351232 ∧ ∃ a c, v = .slice a s.length c := by
  obtain ⟨a, b, off, c, rfl, hv, -, -, hl⟩ := h
  exact ⟨(vw_ok hv).2, hl, a, c, rfl⟩
theorem vf_setRow {w : World} {B g : Nat} {v : Value} {s : List Nat} (h : Vf (fun q => B ≤ q) w v s) (hg : g < B) (cs : Array Value) : Vb (w.setRow g cs) v s :=
  (h.same (fun i hi _ => setRow_other w g i cs (by omega))).vb
theorem Vf.below {P : Nat → Prop} {w w' : World} {v : Value} {s : List Nat} (h : Vf P w v s) (k : Below w.heap.size w w') : Vf P w' v s := h.same (fun i _ hi => k.block i hi)
theorem vf_setRow2 {w : World} {B g : Nat} {v : Value} {s : List Nat} (h : Vf (fun q => B ≤ q) w v s) (hg : g < B) (cs : Array Value) : Vf (fun q => g ≤ q) (w.setRow g cs) v s :=
  (h.same (fun i hi _ => setRow_other w g i cs (by omega))).mono (fun i hi _ => by omega)
theorem ng_leaf {Q : Nat → Prop} {w : World} {P V : List Nat} {vp vv : Value} (hp : Vf Q w vp P) (hv : Vf Q w vv V) (hW : (⟨1, P, V, false, rz, kz⟩ : Nd).W) : Ng Q w ⟨1, P, V, false, rz, kz⟩ ⟨vp, vv, .slice none 0 0, fun _ => .slice none 0 0⟩ :=
  ⟨hW, hp, hv, vf_nil _ _, fun hr => by rw [kz_eq (List.mem_of_getElem? hr)]; exact vf_nil _ _⟩
theorem ng_ext {Q : Nat → Prop} {w : World} {P : List Nat} {r : Rf} {vp vx : Value} (hp : Vf Q w vp P) (hx : Vf Q w vx r.b) (hW : (⟨2, P, [], false, r, kz⟩ : Nd).W) : Ng Q w ⟨2, P, [], false, r, kz⟩ ⟨vp, .slice none 0 0, vx, fun _ => .slice none 0 0⟩ :=
  ⟨hW, hp, vf_nil _ _, hx, fun hr => by rw [kz_eq (List.mem_of_getElem? hr)]; exact vf_nil _ _⟩
theorem nin_leaf {w : World} {P V : List Nat} {vp vv : Value} (hp : Vb w vp P) (hv : Vb w vv V) : Nin w ⟨1, P, V, false, rz, kz⟩ ⟨vp, vv, .slice none 0 0, fun _ => .slice none 0 0⟩ :=
  ⟨⟨kz_len, rz_w, kz_w', hp.len.1, hv.len.1⟩, hp, hv, vb_nil _, fun hr => by rw [kz_eq (List.mem_of_getElem? hr)]; exact vb_nil _⟩
theorem nin_ext {w : World} {P : List Nat} {r : Rf} {vp vx : Value} (hp : Vb w vp P) (hr : r.W) (hx : Vb w vx r.b) : Nin w ⟨2, P, [], false, r, kz⟩ ⟨vp, .slice none 0 0, vx, fun _ => .slice none 0 0⟩ :=
  ⟨⟨kz_len, hr, kz_w', hp.len.1, fun x hx => (by cases hx)⟩, hp, vb_nil _, hx, fun hr => by rw [kz_eq (List.mem_of_getElem? hr)]; exact vb_nil _⟩
set_option maxRecDepth 100000 in
set_option maxHeartbeats 6400000 in
theorem rloose_two {w : World} {v : Value} {s : List Nat} {ps : List (Nat × Nat)} (h : Vb w v s) (hp : prts s = some ps) (h2 : ps.length = 2) : Calls Try.prog 31 #[v] w (LsPst s w) := by
  have hz := zv29
  obtain ⟨a, b2, off, c, rfl, hv, hc, hnil, hsl⟩ := h
  have K := rparts_any (w := w.alloc (.cells (nc nz uz).toArray 29)) (hv.below (below_alloc _ _)) hc hnil hsl
  rw [hp] at K
  simp only [Option.getD_some, Option.isSome_some] at K
  have HPC : Hid (∀ w' u, w'.ownsRow (w.alloc (.cells (nc nz uz).toArray 29)).heap.size 22 1 u ps.length (pvS a c ps) → Below (w.alloc (.cells (nc nz uz).toArray 29)).heap.size (w.alloc (.cells (nc nz uz).toArray 29)) w' → ∃ gp cap, Pcs (w.alloc (.cells (nc nz uz).toArray 29)) w' gp cap u ps (pcs s ps)) := fun w' u ho hb => pcs_of (hv.below (below_alloc _ _)) hc hnil hsl hp ho hb (by omega)
  obtain ⟨x0, x1, ex⟩ : ∃ x0 x1, pcs s ps = [x0, x1] := by
    have : (pcs s ps).length = 2 := by unfold pcs; rw [List.length_map]; exact h2
    match h : pcs s ps, this with
    | [x0, x1], _ => exact ⟨x0, x1, rfl⟩
  obtain ⟨L, eL⟩ : ∃ L, L = lzN s := ⟨_, rfl⟩
  have HL : Hid (L = lzT x0 x1) := by
    show L = _
    rw [eL]
    unfold lzN
    rw [hp]
    show lzP (pcs s ps) = _
    rw [ex]
    rfl
  have HLS : Hid (L = lzN s) := eL
  rw [ex] at HPC
  have HK0 : Hid (Below w.heap.size w (w.alloc (.cells (nc nz uz).toArray 29)) ∧ (w.alloc (.cells (nc nz uz).toArray 29)).heap[w.heap.size]? = some (.cells (nc nz uz).toArray 29 (0, 0))) := ⟨below_alloc _ _, heap_alloc_new _ _⟩
  have one := (nin_zero w).one
  obtain ⟨n, en⟩ : ∃ n, n = s.length := ⟨_, rfl⟩
  rw [← en] at K ⊢
  rw [h2] at K HPC
  clear hv hc hnil hsl en hp ex eL
  obtain ⟨zz, ezz⟩ : ∃ z, z = nz := ⟨_, rfl⟩
  obtain ⟨uu, euu⟩ : ∃ z, z = uz := ⟨_, rfl⟩
  have HZ : Hid (zz = nz ∧ uu = uz) := ⟨ezz, euu⟩
  have zW : zz.W := by rw [ezz]; exact nz_w
  rw [← ezz, ← euu] at K HK0 one hz HPC
  have bdz : ∀ w, (Instr.build 29 #[]).run Try.prog w = .ok (.agg (nc zz uu).toArray) w := by rw [ezz, euu]; exact fun w => run_build w _ _ _ (by kernel_rfl)
  clear ezz euu
  obtain ⟨I0, eI0⟩ : ∃ I, I = ctI x0 := ⟨_, rfl⟩
  obtain ⟨P0, eP0⟩ : ∃ P, P = ctS x0 := ⟨_, rfl⟩
  obtain ⟨F, eF⟩ : ∃ F, F = uqF P0 := ⟨_, rfl⟩
  obtain ⟨Q, eQ⟩ : ∃ Q, Q = uqP P0 := ⟨_, rfl⟩
  have HC0 : Hid (∀ w1 v1, Vb w1 v1 x0 → (ptF x0).e ≤ x0.length → Calls Try.prog 58 #[v1] w1 fun e w' => ∃ u, e = .returned (.tuple #[u, .bool I0]) ∧ Vb w' u P0 ∧ P0.length ≤ 1099511627776 ∧ Below w1.heap.size w1 w') := fun w1 v1 hv1 he1 => by
    refine (rcontent_any hv1 he1).mono ?_
    rintro e w' ⟨u, rfl, ho, hb⟩
    have hl : (ctS x0).length ≤ 268435800 := by
      unfold ctS
      rw [cut_len he1]
      have := ptF_bd hv1.len.1
      omega
    refine ⟨u, by rw [eI0]; rfl, ?_, ?_, hb⟩
    · rw [eP0]
      exact vb_own (s := ctS x0) ho (fun y hy => hv1.len.1 y (cut_mem hy)) (by omega)
    · rw [eP0]
      omega
  have HU : Hid (∀ w1 v1, Vb w1 v1 P0 → P0.length ≤ 1099511627776 → Calls Try.prog 59 #[v1] w1 fun e w' => ∃ u, e = .returned (.tuple #[u, .bool F]) ∧ Vf (fun k => w1.heap.size ≤ k) w' u Q ∧ Below w1.heap.size w1 w') := fun w1 v1 hv1 hl1 => by
    rw [eF, eQ]
    exact runpacked_any hv1 hl1
  have HT : Hid (L = if I0 then (if F then (if ctI x1 then some ⟨1, Q, ctS x1, false, rz, kz⟩ else none) else match rfO x1 with | none => none | some r => some ⟨2, Q, [], false, r, kz⟩) else none) := by
    show L = _
    rw [HL.out]
    unfold lzT
    rw [← eI0, ← eP0, ← eF, ← eQ]
    cases I0 <;> cases F <;> cases rfO x1 <;> rfl
  clear HL eI0 eP0 eF eQ
  unfold LsPst
  rw [← HLS.out]
  cases I0 with
  | false =>
    have HN : Hid (L = none) := by show L = _; rw [HT.out]; rfl
    clear HT
    go_enter Try.func31, Try.ntmps31
    go_wp2_with (first
      | (go_at_call 56; refine K.mono ?_; rintro e w3 ⟨u3, rfl, own3, b3⟩; obtain ⟨gp, cap, rfl, hcell⟩ := HPC.out w3 u3 own3 b3; obtain ⟨v0, c0, vb0, e0, -⟩ := hcell 0 x0 w3 (Below.refl _ _) rfl; have K1 := HC0.out w3 v0 vb0 e0; have HX : Hid (Below w.heap.size w w3 ∧ w3.heap[w.heap.size]? = some (.cells (nc zz uu).toArray 29 (0, 0)) ∧ w.heap.size < w3.heap.size) := ⟨ch HK0.out.1 b3, (b3.block _ (by simp)).trans HK0.out.2, (by have := b3.size; simp at this; omega)⟩; clear own3 b3 K hcell vb0)
      | (go_at_call 58; refine K1.mono ?_; rintro e w4 ⟨u4, rfl, vb4, l4, b4⟩; have K2 := HU.out w4 u4 vb4 l4; have HX4 : Hid (Below w3.heap.size w3 w4) := b4; obtain ⟨-, -, a4, c4, rfl⟩ := vb4.len; clear vb4 l4 b4 K1)
      | (go_at_call 59; refine K2.mono ?_; rintro e w5 ⟨u5, rfl, vf5, b5⟩; have g5 := (b5.block w.heap.size (by have := HX4.out.size; have := HX.out.2.2; omega)).trans ((HX4.out.block w.heap.size HX.out.2.2).trans HX.out.2.1); have HX5 : Hid (Below w.heap.size w w5) := ch HX.out.1 (HX4.out.trans (b5.mono HX4.out.size)); clear vf5 b5 K2)
      | refine wpList_st29b (by kernel_rfl) _ _ (by rfl) w.heap.size zz zz uu uu zW zW one g5 (by rfl) (by rfl) ?_)
    have hr3 := setRow_heap w5 w.heap.size _ (nc zz uu).toArray _ _ g5
    refine bodyPost_ret (res2n rfl _ _ w.heap.size _ _ _ zW (rng_row hr3) rfl rfl) rfl ?_
    refine ⟨zz, uu, by rw [HN.out]; rfl, by rw [HZ.out.1, HZ.out.2]; exact ng_zero _ _, below_setRow HX5.out (Nat.le_refl _) _, fun q hq => ?_⟩
    rw [HN.out] at hq
    cases hq
  | true =>
    cases F with
    | true =>
      obtain ⟨I1, eI1⟩ : ∃ I, I = ctI x1 := ⟨_, rfl⟩
      obtain ⟨P1, eP1⟩ : ∃ P, P = ctS x1 := ⟨_, rfl⟩
      have HC1 : Hid (∀ w1 v1, Vb w1 v1 x1 → (ptF x1).e ≤ x1.length → Calls Try.prog 58 #[v1] w1 fun e w' => ∃ u, e = .returned (.tuple #[u, .bool I1]) ∧ Vf (fun q => w1.heap.size ≤ q) w' u P1 ∧ Below w1.heap.size w1 w') := fun w1 v1 hv1 he1 => by
        refine (rcontent_any hv1 he1).mono ?_
        rintro e w' ⟨u, rfl, ho, hb⟩
        refine ⟨u, by rw [eI1]; rfl, ?_, hb⟩
        rw [eP1]
        exact vf_of_own (s := ctS x1) ho (fun y hy => hv1.len.1 y (cut_mem hy)) (by unfold ctS; rw [cut_len he1]; have := ptF_bd hv1.len.1; omega) (fun q hq => (ho.lt q hq).1)
      have HN : Hid (L = if I1 then some ⟨1, Q, P1, false, rz, kz⟩ else none) := by
        show L = _
        rw [HT.out, eI1, eP1]
        rfl
      have HBD : Hid (∀ a1 n1 c1 a2 n2 c2, Try.prog.built 29 [(0, .int .i64 1), (1, .slice a1 n1 c1), (2, .slice a2 n2 c2)] = some (nc ⟨1, Q, P1, false, rz, kz⟩ ⟨.slice a1 n1 c1, .slice a2 n2 c2, .slice none 0 0, fun _ => .slice none 0 0⟩).toArray) := fun a1 n1 c1 a2 n2 c2 => built29_leaf Q P1 a1 n1 c1 a2 n2 c2
      clear HT eI1 eP1
      go_enter Try.func31, Try.ntmps31
      go_wp2_with (first
        | (go_at_call 56; refine K.mono ?_; rintro e w3 ⟨u3, rfl, own3, b3⟩; obtain ⟨gp, cap, rfl, hcell⟩ := HPC.out w3 u3 own3 b3; obtain ⟨v0, c0, vb0, e0, -⟩ := hcell 0 x0 w3 (Below.refl _ _) rfl; have K1 := HC0.out w3 v0 vb0 e0; have HX : Hid (Below w.heap.size w w3 ∧ w3.heap[w.heap.size]? = some (.cells (nc zz uu).toArray 29 (0, 0)) ∧ w.heap.size < w3.heap.size) := ⟨ch HK0.out.1 b3, (b3.block _ (by simp)).trans HK0.out.2, (by have := b3.size; simp at this; omega)⟩; have HHC : Hid (∀ w2, Below w3.heap.size w3 w2 → ∃ v, w2.cell? ⟨gp, 1, none⟩ = some v ∧ Vb w2 v x1 ∧ (ptF x1).e ≤ x1.length) := (fun w2 k => (by obtain ⟨v, q1, q2, q3, -⟩ := hcell 1 x1 w2 k rfl; exact ⟨v, q1, q2, q3⟩)); clear own3 b3 K hcell vb0 e0)
        | (go_at_call 58; refine K1.mono ?_; rintro e w4 ⟨u4, rfl, vb4, l4, b4⟩; have K2 := HU.out w4 u4 vb4 l4; have HX4 : Hid (Below w3.heap.size w3 w4) := b4; obtain ⟨-, -, a4, c4, rfl⟩ := vb4.len; clear vb4 l4 b4 K1 c0)
        | (go_at_call 59; refine K2.mono ?_; rintro e w5 ⟨u5, rfl, vf5, b5⟩; have HX5 : Hid (Vf (fun k => w4.heap.size ≤ k) w5 u5 Q ∧ Below w3.heap.size w3 w5) := ⟨vf5, HX4.out.trans (b5.mono HX4.out.size)⟩; obtain ⟨v1, c1, vb1, e1⟩ := HHC.out w5 HX5.out.2; have K6 := HC1.out w5 v1 vb1 e1; obtain ⟨-, -, a5, c5, rfl⟩ := vf5.vb.len; clear vf5 b5 K2 vb1 e1)
        | (go_at_call 58; go_loud (refine K6.mono ?_; rintro e w6 ⟨u6, rfl, vf6, b6⟩; have HX6 : Hid (Vf (fun k => w5.heap.size ≤ k) w6 u6 P1 ∧ Below w5.heap.size w5 w6) := ⟨vf6, b6⟩; have B36 : Below w3.heap.size w3 w6 := HX5.out.2.trans (b6.mono HX5.out.2.size); have g6 := (B36.block w.heap.size HX.out.2.2).trans HX.out.2.1; have HX7 : Hid (Below w.heap.size w w6) := ch HX.out.1 B36; obtain ⟨-, -, a6, c6, rfl⟩ := vf6.vb.len; have bd := HBD.out a5 Q.length c5 a6 P1.length c6; have nI := nin_leaf (vf_setRow (g := w.heap.size) (HX5.out.1.below b6) (by have := HX4.out.size; have := HX.out.2.2; omega) #[]) (vf_setRow (g := w.heap.size) vf6 (by have := HX5.out.2.size; have := HX.out.2.2; omega) #[]); have nW := nI.W; have on := nI.one; clear vf6 b6 B36 K6 c1 nI))
        | refine wpList_bdL (by kernel_rfl) _ _ (by rfl) _ bd ?_
        | refine wpList_st29b (by kernel_rfl) _ _ (by rfl) w.heap.size ⟨1, Q, P1, false, rz, kz⟩ zz ⟨.slice a5 Q.length c5, .slice a6 P1.length c6, .slice none 0 0, fun _ => .slice none 0 0⟩ uu nW zW on g6 (by rfl) (by rfl) ?_)
      have hr3 := setRow_heap w6 w.heap.size _ (nc ⟨1, Q, P1, false, rz, kz⟩ ⟨.slice a5 Q.length c5, .slice a6 P1.length c6, .slice none 0 0, fun _ => .slice none 0 0⟩).toArray _ _ g6
      refine bodyPost_ret (res2n rfl _ _ w.heap.size _ _ _ nW (rng_row hr3) rfl rfl) rfl ?_
      refine ⟨_, _, ?_, ng_leaf (vf_setRow2 (HX5.out.1.below HX6.out.2) (by have := HX4.out.size; have := HX.out.2.2; omega) _) (vf_setRow2 HX6.out.1 (by have := HX5.out.2.size; have := HX.out.2.2; omega) _) nW, below_setRow HX7.out (Nat.le_refl _) _, fun q hq => ?_⟩
      · rw [HN.out]
        cases I1 <;> rfl
      · rw [HN.out] at hq
        cases I1 with
        | false => cases hq
        | true => exact Option.some.inj hq
    | false =>
      obtain ⟨S, eS⟩ : ∃ S, S = (rfO x1).isSome := ⟨_, rfl⟩
      have HC1 : Hid (∀ w1 v1, Vb w1 v1 x1 → (ptF x1).e ≤ x1.length → Calls Try.prog 57 #[v1] w1 fun e w' => ∃ r u, e = .returned (.tuple #[.agg (rcs r u).toArray, .bool S]) ∧ r.W ∧ Vf (fun q => w1.heap.size ≤ q) w' u r.b ∧ Below w1.heap.size w1 w' ∧ ∀ q, rfO x1 = some q → r = q) := fun w1 v1 hv1 he1 => by
        rw [eS]
        exact rrefOf_any hv1 he1
      have HN : Hid (L.isSome = S ∧ ∀ r, (∀ q, rfO x1 = some q → r = q) → ∀ q, L = some q → (⟨2, Q, [], false, r, kz⟩ : Nd) = q) := by
        show _ ∧ _
        rw [HT.out, eS]
        show (match rfO x1 with | none => none | some r => some (⟨2, Q, [], false, r, kz⟩ : Nd)).isSome = _ ∧ ∀ r, (∀ q, rfO x1 = some q → r = q) → ∀ q, (match rfO x1 with | none => none | some r => some (⟨2, Q, [], false, r, kz⟩ : Nd)) = some q → (⟨2, Q, [], false, r, kz⟩ : Nd) = q
        cases hx : rfO x1 with
        | none => exact ⟨rfl, fun r _ q hq => by cases hq⟩
        | some r0 => exact ⟨rfl, fun r hr q hq => by rw [hr r0 rfl]; exact Option.some.inj hq⟩
      have HBD : Hid (∀ a1 n1 c1 r v, r.h.length = 32 → Try.prog.built 29 [(0, .int .i64 2), (1, .slice a1 n1 c1), (4, .agg (rcs r v).toArray)] = some (nc ⟨2, Q, [], false, r, kz⟩ ⟨.slice a1 n1 c1, .slice none 0 0, v, fun _ => .slice none 0 0⟩).toArray) := fun a1 n1 c1 r v hr => built29_ext Q r hr a1 n1 c1 v
      clear HT eS
      go_enter Try.func31, Try.ntmps31
      have hz26 := zv26
      go_wp2_with (first
        | (go_at_call 56; refine K.mono ?_; rintro e w3 ⟨u3, rfl, own3, b3⟩; obtain ⟨gp, cap, rfl, hcell⟩ := HPC.out w3 u3 own3 b3; obtain ⟨v0, c0, vb0, e0, -⟩ := hcell 0 x0 w3 (Below.refl _ _) rfl; have K1 := HC0.out w3 v0 vb0 e0; have HX : Hid (Below w.heap.size w w3 ∧ w3.heap[w.heap.size]? = some (.cells (nc zz uu).toArray 29 (0, 0)) ∧ w.heap.size < w3.heap.size) := ⟨ch HK0.out.1 b3, (b3.block _ (by simp)).trans HK0.out.2, (by have := b3.size; simp at this; omega)⟩; have HHC : Hid (∀ w2, Below w3.heap.size w3 w2 → ∃ v, w2.cell? ⟨gp, 1, none⟩ = some v ∧ Vb w2 v x1 ∧ (ptF x1).e ≤ x1.length) := (fun w2 k => (by obtain ⟨v, q1, q2, q3, -⟩ := hcell 1 x1 w2 k rfl; exact ⟨v, q1, q2, q3⟩)); clear own3 b3 K hcell vb0 e0)
        | (go_at_call 58; refine K1.mono ?_; rintro e w4 ⟨u4, rfl, vb4, l4, b4⟩; have K2 := HU.out w4 u4 vb4 l4; have HX4 : Hid (Below w3.heap.size w3 w4) := b4; obtain ⟨-, -, a4, c4, rfl⟩ := vb4.len; clear vb4 l4 b4 K1 c0)
        | (go_at_call 59; refine K2.mono ?_; rintro e w5 ⟨u5, rfl, vf5, b5⟩; have HX5 : Hid (Vf (fun k => w4.heap.size ≤ k) w5 u5 Q ∧ Below w3.heap.size w3 w5) := ⟨vf5, HX4.out.trans (b5.mono HX4.out.size)⟩; obtain ⟨v1, c1, vb1, e1⟩ := HHC.out w5 HX5.out.2; have K6 := HC1.out w5 v1 vb1 e1; obtain ⟨-, -, a5, c5, rfl⟩ := vf5.vb.len; clear vf5 b5 K2 vb1 e1)
        | (go_at_call 57; go_loud (refine K6.mono ?_; rintro e w6 ⟨r, u6, rfl, rW, vf6, b6, hr6⟩; have h32 := rW.1; have o6 := vb_one vf6.vb; have b7 := ch b6 (below_alloc w6 (.cells (rcs r u6).toArray 26)); have rg := rng_ref_new w6 r u6 26; have HX6 : Hid (Vf (fun k => w5.heap.size ≤ k) (w6.alloc (.cells (rcs r u6).toArray 26)) u6 r.b ∧ Below w5.heap.size w5 (w6.alloc (.cells (rcs r u6).toArray 26)) ∧ r.W ∧ ∀ q, rfO x1 = some q → r = q) := ⟨vf6.below (below_alloc _ _), b7, rW, hr6⟩; have B36 : Below w3.heap.size w3 (w6.alloc (.cells (rcs r u6).toArray 26)) := HX5.out.2.trans (b7.mono HX5.out.2.size); have g6 := (B36.block w.heap.size HX.out.2.2).trans HX.out.2.1; have HX7 : Hid (Below w.heap.size w (w6.alloc (.cells (rcs r u6).toArray 26))) := ch HX.out.1 B36; have bd := HBD.out a5 Q.length c5 r u6 h32; have nI := nin_ext (vf_setRow (g := w.heap.size) (HX5.out.1.below b7) (by have := HX4.out.size; have := HX.out.2.2; omega) #[]) rW (vf_setRow (g := w.heap.size) HX6.out.1 (by have := HX5.out.2.size; have := HX.out.2.2; omega) #[]); have nW := nI.W; have on := nI.one; clear vf6 b6 b7 B36 K6 c1 nI rW hr6))
        | refine wpList_st26 (by kernel_rfl) _ _ (by rfl) r rz u6 (.slice none 0 0) h32 z32_len o6 (by rfl) (by rfl) ?_
        | refine wpList_ld26 (by kernel_rfl) _ (by rfl) _ _ r u6 h32 rg (by rfl) ?_
        | refine wpList_bdL (by kernel_rfl) _ _ (by rfl) _ bd ?_
        | refine wpList_st29b (by kernel_rfl) _ _ (by rfl) w.heap.size ⟨2, Q, [], false, r, kz⟩ zz ⟨.slice a5 Q.length c5, .slice none 0 0, u6, fun _ => .slice none 0 0⟩ uu nW zW on g6 (by rfl) (by rfl) ?_)
      have hr3 := setRow_heap (w6.alloc (.cells (rcs r u6).toArray 26)) w.heap.size _ (nc ⟨2, Q, [], false, r, kz⟩ ⟨.slice a5 Q.length c5, .slice none 0 0, u6, fun _ => .slice none 0 0⟩).toArray _ _ g6
      refine bodyPost_ret (res2n rfl _ _ w.heap.size _ _ _ nW (rng_row hr3) rfl rfl) rfl ?_
      refine ⟨_, _, ?_, ng_ext (vf_setRow2 (HX5.out.1.below HX6.out.2.1) (by have := HX4.out.size; have := HX.out.2.2; omega) _) (vf_setRow2 HX6.out.1 (by have := HX5.out.2.size; have := HX.out.2.2; omega) _) nW, below_setRow HX7.out (Nat.le_refl _) _, HN.out.2 r HX6.out.2.2.2⟩
      rw [HN.out.1]
      rfl
end Go.Proofs.Ytadcbhjmbgenbaa
