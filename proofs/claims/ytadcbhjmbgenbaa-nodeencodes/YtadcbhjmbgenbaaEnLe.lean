import Derived.Test.YtadcbhjmbgenbaaFlqe
import Derived.Test.YtadcbhjmbgenbaaFee
import Derived.Test.YtadcbhjmbgenbaaLwe
import Derived.Test.YtadcbhjmbgenbaaKne
/-
  cairnref07: Decode.
-/
namespace Go.Proofs.Ytadcbhjmbgenbaa
open Go.RowKit

set_option maxRecDepth 100000 in
set_option maxHeartbeats 6400000 in
theorem rdec_step (s : List Nat) (ih : ∀ t : List Nat, t.length < s.length → DecR t) : DecR s := by
  intro w v h
  have hz := zv29
  have hsb := h.len.1
  have K := rloose_any (w := w.alloc (.cells (nc nz uz).toArray 29)) (Rel.keep h (below_alloc _ _))
  unfold LsPst at K
  have HV : Hid (∀ w', Below w.heap.size w w' → Vb w' v s) := fun w' k => Rel.keep h k
  obtain ⟨-, -, a, c, rfl⟩ := h.len
  have hR := rdN_eq hsb
  have HG : Hid (Below w.heap.size w (w.alloc (.cells (nc nz uz).toArray 29)) ∧ (w.alloc (.cells (nc nz uz).toArray 29)).heap[w.heap.size]? = some (.cells (nc nz uz).toArray 29 (0, 0)) ∧ (w.alloc (.cells (nc nz uz).toArray 29)).heap.size = w.heap.size + 1) := ⟨below_alloc _ _, heap_alloc_new _ _, by simp⟩
  have one := (nin_zero w).one
  obtain ⟨zz, ezz⟩ : ∃ z, z = nz := ⟨_, rfl⟩
  obtain ⟨uu, euu⟩ : ∃ z, z = uz := ⟨_, rfl⟩
  have HZ : Hid (zz = nz ∧ uu = uz) := ⟨ezz, euu⟩
  have zW : zz.W := by rw [ezz]; exact nz_w
  rw [← ezz, ← euu] at K HG one hz
  have bdz : ∀ w, (Instr.build 29 #[]).run Try.prog w = .ok (.agg (nc zz uu).toArray) w := by rw [ezz, euu]; exact fun w => run_build w _ _ _ (by kernel_rfl)
  clear ezz euu
  have bad : decN KD s = none → Hid (dN s = zz ∧ dE s = 70) := fun q => ⟨by unfold dN; rw [q, HZ.out.1]; rfl, by unfold dE; rw [q]; rfl⟩
  obtain ⟨ns, ens⟩ : ∃ n, n = s.length := ⟨_, rfl⟩
  have HNS : Hid (ns = s.length ∧ ∀ x ∈ s, x < 256) := ⟨ens, hsb⟩
  rw [← ens] at K ⊢
  rw [← ens] at HV
  cases hL : lzN s with
  | none =>
    have HB : Hid (dN s = zz ∧ dE s = 70) := bad (by rw [← hR]; unfold rdN; rw [hL])
    rw [hL] at K
    simp only [Option.isSome_none] at K
    clear bad hR hL h ih hsb ens
    go_enter Try.func18, Try.ntmps18
    go_wp2_with (first
      | (go_at_call 31; go_loud (refine K.mono ?_; rintro e w1 ⟨m, u1, rfl, hg1, b1, -⟩; have mW := hg1.W; have mO := hg1.nin.one; have b2 := ch b1 (below_alloc w1 (.cells (nc m u1).toArray 29)); have g2 := (b2.block w.heap.size (by rw [HG.out.2.2]; omega)).trans HG.out.2.1; have HX : Hid (Below w.heap.size w (w1.alloc (.cells (nc m u1).toArray 29))) := ch HG.out.1 b2; clear hg1 b1 b2 K))
      | refine wpList_st29 (by kernel_rfl) _ _ (by rfl) m zz u1 uu mW zW mO (by rfl) (by rfl) ?_
      | refine wpList_st29b (by kernel_rfl) _ _ (by rfl) w.heap.size zz zz uu uu zW zW one g2 (by rfl) (by rfl) ?_)
    have hr3 := setRow_heap (w1.alloc (.cells (nc m u1).toArray 29)) w.heap.size _ (nc zz uu).toArray _ _ g2
    refine bodyPost_ret (res2n rfl _ _ w.heap.size _ _ _ zW (rng_row hr3) rfl rfl) rfl ?_
    exact ⟨uu, by rw [HB.out.1, HB.out.2]; rfl, by rw [HB.out.1, HZ.out.1, HZ.out.2]; exact nin_zero _, below_setRow HX.out (Nat.le_refl _) _⟩
  | some q =>
    obtain ⟨qW, q1, q2⟩ := lzN_ok hsb hL
    have hD : Nrd q := ⟨fun _ => ih _ q1, fun r hr _ => ih _ (q2 r hr)⟩
    rw [hL] at K
    simp only [Option.isSome_some] at K
    have HKE : Hid (∀ w1 u1, Nin w1 q u1 → Calls Try.prog 22 #[.agg (nc q u1).toArray] w1 (EnPst q w1)) := fun w1 u1 hn => renc_any hn hD
    unfold EnPst at HKE
    have HRD : Hid (decN KD s = if mayN KD q = true ∧ encN q = s then some q else none) := by
      show _ = _
      rw [← hR]
      unfold rdN
      rw [hL]
    have HEN : Hid (∀ x ∈ eN q, x < 256) := by
      intro x hx
      unfold eN at hx
      split at hx
      · rename_i hm
        exact (ni_may qW hm).byt x hx
      · cases hx
    obtain ⟨d, ed⟩ : ∃ d, d = eE q := ⟨_, rfl⟩
    have hd : (d = 0 ∧ mayN KD q = true ∧ eN q = encN q) ∨ (d = 70 ∧ mayN KD q = false) := by
      rw [ed]
      unfold eE eN
      cases mayN KD q with
      | true => exact Or.inl ⟨rfl, rfl, rfl⟩
      | false => exact Or.inr ⟨rfl, rfl⟩
    rw [← ed] at HKE
    obtain ⟨EN, eEN⟩ : ∃ t, t = eN q := ⟨_, rfl⟩
    rw [← eEN] at hd HKE HEN
    clear hR hL h ih hsb ens hD q1 q2 eEN ed
    rcases hd with ⟨rfl, hm, he⟩ | ⟨rfl, hm⟩
    · by_cases hs : EN = s
      · have HB : Hid (dN s = q ∧ dE s = 0) := by
          have : decN KD s = some q := by rw [HRD.out, if_pos ⟨hm, he ▸ hs⟩]
          exact ⟨by unfold dN; rw [this]; rfl, by unfold dE; rw [this]; rfl⟩
        obtain ⟨S, eS⟩ : ∃ S, S = sB s := ⟨_, rfl⟩
        have HCV : Hid (∀ {w' : World} {v : Value}, Vb w' v s → (convert 22 9 v).run Try.prog w' = .ok (.string S) w') := fun k => by rw [eS]; exact conv_vb k
        rw [hs] at HKE
        clear bad hm he hs eS HEN HRD
        go_enter Try.func18, Try.ntmps18
        go_wp2_with (first
          | (go_at_call 31; go_loud (refine K.mono ?_; rintro e w1 ⟨m, u1, rfl, hg1, b1, hmq⟩; obtain rfl := hmq q rfl; have mO := hg1.nin.one; have b2 := ch b1 (below_alloc w1 (.cells (nc m u1).toArray 29)); have nb := nb_new qW w1 u1; have KE := HKE.out (w1.alloc (.cells (nc m u1).toArray 29)) u1 (hg1.nin.keep (below_alloc _ _)); have HX : Hid (Below (w.alloc (.cells (nc zz uu).toArray 29)).heap.size (w.alloc (.cells (nc zz uu).toArray 29)) (w1.alloc (.cells (nc m u1).toArray 29)) ∧ Ng (fun q => (w.alloc (.cells (nc zz uu).toArray 29)).heap.size ≤ q) (w1.alloc (.cells (nc m u1).toArray 29)) m u1) := ⟨b2, hg1.same (fun i _ hi => (heap_alloc_old _ _ hi))⟩; clear hg1 b1 b2 K hmq))
          | refine wpList_st29 (by kernel_rfl) _ _ (by rfl) m zz u1 uu qW zW mO (by rfl) (by rfl) ?_
          | refine wpList_ld29 (by kernel_rfl) _ (by rfl) _ _ _ qW nb (by rfl) ?_
          | (go_at_call 22; go_loud (refine KE.mono ?_; rintro e w5 ⟨v5, rfl, vb5, b5⟩; have cv1 := HCV.out vb5; obtain ⟨-, -, a5, c5, rfl⟩ := vb5.len; have nb5 := nb.keep b5; have B5 := ch HX.out.1 b5; have cv2 := HCV.out (HV.out w5 (ch HG.out.1 B5)); have g5 := (B5.block w.heap.size (by rw [HG.out.2.2]; omega)).trans HG.out.2.1; have HY : Hid (Below w.heap.size w w5 ∧ Ng (fun q => (w.alloc (.cells (nc zz uu).toArray 29)).heap.size ≤ q) w5 m u1) := ⟨ch HG.out.1 B5, HX.out.2.same (fun i _ hi => b5.block i hi)⟩; clear vb5 b5 B5 KE nb))
          | refine wpList_ld29 (by kernel_rfl) _ (by rfl) _ _ _ qW nb5 (by rfl) ?_
          | refine wpList_st29b (by kernel_rfl) _ _ (by rfl) w.heap.size m zz u1 uu qW zW mO g5 (by rfl) (by rfl) ?_)
        have hr3 := setRow_heap w5 w.heap.size _ (nc m u1).toArray _ _ g5
        refine bodyPost_ret (res2n rfl _ _ w.heap.size _ _ _ qW (rng_row hr3) rfl rfl) rfl ?_
        refine ⟨u1, by rw [HB.out.1, HB.out.2]; rfl, ?_, below_setRow HY.out.1 (Nat.le_refl _) _⟩
        rw [HB.out.1]
        exact (HY.out.2.same (fun i hi _ => setRow_other _ _ _ _ (by rw [HG.out.2.2] at hi; omega))).nin
      · have HB : Hid (dN s = zz ∧ dE s = 70) := bad (by rw [HRD.out, if_neg (fun k => hs (he.trans k.2))])
        obtain ⟨S, eS⟩ : ∃ S, S = sB s := ⟨_, rfl⟩
        obtain ⟨T, eT⟩ : ∃ S, S = sB EN := ⟨_, rfl⟩
        have HCV : Hid (∀ {w' : World} {v : Value}, Vb w' v s → (convert 22 9 v).run Try.prog w' = .ok (.string S) w') := fun k => by rw [eS]; exact conv_vb k
        have HCT : Hid (∀ {w' : World} {v : Value}, Vb w' v EN → (convert 22 9 v).run Try.prog w' = .ok (.string T) w') := fun k => by rw [eT]; exact conv_vb k
        obtain ⟨n1, n2, n3⟩ := sB_ne HEN.out HNS.out.2 hs
        rw [← eS, ← eT] at n1 n2 n3
        have n4 : (T.toList != S.toList) = true := by simpa using n2
        have n5 : ¬ T.toList = S.toList := by simpa using n2
        clear bad hm he hs eS eT HEN HRD
        go_enter Try.func18, Try.ntmps18
        go_wp2_with (first
          | (go_at_call 31; go_loud (refine K.mono ?_; rintro e w1 ⟨m, u1, rfl, hg1, b1, hmq⟩; obtain rfl := hmq q rfl; have mO := hg1.nin.one; have b2 := ch b1 (below_alloc w1 (.cells (nc m u1).toArray 29)); have nb := nb_new qW w1 u1; have KE := HKE.out (w1.alloc (.cells (nc m u1).toArray 29)) u1 (hg1.nin.keep (below_alloc _ _)); have HX : Hid (Below (w.alloc (.cells (nc zz uu).toArray 29)).heap.size (w.alloc (.cells (nc zz uu).toArray 29)) (w1.alloc (.cells (nc m u1).toArray 29))) := b2; clear hg1 b1 b2 K hmq))
          | refine wpList_st29 (by kernel_rfl) _ _ (by rfl) m zz u1 uu qW zW mO (by rfl) (by rfl) ?_
          | refine wpList_ld29 (by kernel_rfl) _ (by rfl) _ _ _ qW nb (by rfl) ?_
          | (go_at_call 22; go_loud (refine KE.mono ?_; rintro e w5 ⟨v5, rfl, vb5, b5⟩; have cv1 := HCT.out vb5; obtain ⟨-, -, a5, c5, rfl⟩ := vb5.len; have B5 := ch HX.out b5; have cv2 := HCV.out (HV.out w5 (ch HG.out.1 B5)); have g5 := (B5.block w.heap.size (by rw [HG.out.2.2]; omega)).trans HG.out.2.1; have HY : Hid (Below w.heap.size w w5) := ch HG.out.1 B5; clear vb5 b5 B5 KE nb))
          | refine wpList_st29b (by kernel_rfl) _ _ (by rfl) w.heap.size zz zz uu uu zW zW one g5 (by rfl) (by rfl) ?_)
        have hr3 := setRow_heap w5 w.heap.size _ (nc zz uu).toArray _ _ g5
        refine bodyPost_ret (res2n rfl _ _ w.heap.size _ _ _ zW (rng_row hr3) rfl rfl) rfl ?_
        exact ⟨uu, by rw [HB.out.1, HB.out.2]; rfl, by rw [HB.out.1, HZ.out.1, HZ.out.2]; exact nin_zero _, below_setRow HY.out (Nat.le_refl _) _⟩
    · have HB : Hid (dN s = zz ∧ dE s = 70) := bad (by rw [HRD.out, if_neg (fun k => by rw [hm] at k; cases k.1)])
      clear bad hm HEN HRD
      go_enter Try.func18, Try.ntmps18
      go_wp2_with (first
        | (go_at_call 31; go_loud (refine K.mono ?_; rintro e w1 ⟨m, u1, rfl, hg1, b1, hmq⟩; obtain rfl := hmq q rfl; have mO := hg1.nin.one; have b2 := ch b1 (below_alloc w1 (.cells (nc m u1).toArray 29)); have nb := nb_new qW w1 u1; have KE := HKE.out (w1.alloc (.cells (nc m u1).toArray 29)) u1 (hg1.nin.keep (below_alloc _ _)); have HX : Hid (Below (w.alloc (.cells (nc zz uu).toArray 29)).heap.size (w.alloc (.cells (nc zz uu).toArray 29)) (w1.alloc (.cells (nc m u1).toArray 29))) := b2; clear hg1 b1 b2 K hmq))
        | refine wpList_st29 (by kernel_rfl) _ _ (by rfl) m zz u1 uu qW zW mO (by rfl) (by rfl) ?_
        | refine wpList_ld29 (by kernel_rfl) _ (by rfl) _ _ _ qW nb (by rfl) ?_
        | (go_at_call 22; go_loud (refine KE.mono ?_; rintro e w5 ⟨v5, rfl, vb5, b5⟩; obtain ⟨-, -, a5, c5, rfl⟩ := vb5.len; have B5 := ch HX.out b5; have g5 := (B5.block w.heap.size (by rw [HG.out.2.2]; omega)).trans HG.out.2.1; have HY : Hid (Below w.heap.size w w5) := ch HG.out.1 B5; clear vb5 b5 B5 KE nb))
        | refine wpList_st29b (by kernel_rfl) _ _ (by rfl) w.heap.size zz zz uu uu zW zW one g5 (by rfl) (by rfl) ?_)
      have hr3 := setRow_heap w5 w.heap.size _ (nc zz uu).toArray _ _ g5
      refine bodyPost_ret (res2n rfl _ _ w.heap.size _ _ _ zW (rng_row hr3) rfl rfl) rfl ?_
      exact ⟨uu, by rw [HB.out.1, HB.out.2]; rfl, by rw [HB.out.1, HZ.out.1, HZ.out.2]; exact nin_zero _, below_setRow HY.out (Nat.le_refl _) _⟩
theorem rdec_all : ∀ (k : Nat) (s : List Nat), s.length < k → DecR s := by
  intro k
  induction k with
  | zero => intro s h; omega
  | succ k ih => intro s h; exact rdec_step s (fun t ht => ih t (by omega))
/-- THE REFERENCE's Decode IS THE DOCUMENT's -/
theorem rdecode_any (s : List Nat) : DecR s := rdec_all (s.length + 1) s (by omega)
theorem nrd_any (n : Nd) : Nrd n := ⟨fun _ => rdecode_any _, fun r _ _ => rdecode_any r.b⟩
theorem rencode_any {w : World} {n : Nd} {u : Nv} (h : Nin w n u) : Calls Try.prog 22 #[.agg (nc n u).toArray] w (EnPst n w) := renc_any h (nrd_any n)
end Go.Proofs.Ytadcbhjmbgenbaa

/-
  NodeEncodes: the law.
-/
namespace Go.Proofs.Ytadcbhjmbgenbaa
open Go.RowKit

/-- one list alone is apart -/
theorem apart1 {w : World} {B : Nat} {v : Value} {s : List Nat} (ho : w.ownsRow B 5 1 v s.length (bv s)) (hb : ∀ x ∈ s, x < 256) (hl : s.length ≤ 140737488351232) (hB : B ≤ w.heap.size) :
    Calls Try.prog 15 #[.slice (some ⟨w.heap.size, 0, none⟩) 1 1] (w.alloc (.cells #[v] 22)) fun e w' => e = .returned (.bool true) ∧ Below B w w' := by
  refine (apart_any4 (w.alloc (.cells #[v] 22)) w.heap.size (some ⟨w.heap.size, 0, none⟩) 1 [v] (fun _ => s) (World.ownsRow_lit (base := w.heap.size) (e := 22) (size := 1) w #[v] 1 (Nat.le_refl _) (by decide) rfl) (fun r u hu => ?_) (by simp) (fun _ _ => hl) (by simp)).mono ?_
  · have : u = v := by
      cases r with
      | zero => simpa using hu.symm
      | succ r => simp at hu
    subst this
    exact ⟨own_base (own_same ho (fun g hg => heap_alloc_old _ _ (ho.lt g hg).2)), fun _ _ => trivial, ⟨by omega, hb⟩⟩
  · rintro e w' ⟨rfl, t⟩
    refine ⟨rfl, ((Below.refl B w).trans ((below_alloc w _).mono hB)).trans (t.below (fun q hq => ?_) (by simp; omega))⟩
    obtain ⟨u, hu, e⟩ := hq
    rw [List.mem_singleton.1 hu] at e
    exact (ho.lt q e).1
set_option maxRecDepth 100000 in
set_option maxHeartbeats 12800000 in
theorem nencodes_any (w : World) (n : Nd) (u : Nv) (h : Nin w n u) : Calls Try.prog 7 #[.agg (nc n u).toArray] w fun e w' => e = .returned (.bool true) ∧ Below w.heap.size w w' := by
  have hz := zv29
  obtain ⟨zz, ezz⟩ : ∃ z, z = nz := ⟨_, rfl⟩
  obtain ⟨uu, euu⟩ : ∃ z, z = uz := ⟨_, rfl⟩
  have zW : zz.W := by rw [ezz]; exact nz_w
  rw [← ezz, ← euu] at hz
  clear ezz euu
  have hW := h.W
  have B1 : Below w.heap.size w (w.alloc (.cells (nc n u).toArray 29)) := below_alloc _ _
  have nbA := nb_new hW w u
  have nin1 := h.keep B1
  have K1 := rencode_any nin1
  unfold EnPst at K1
  obtain ⟨d, ed⟩ : ∃ d, d = eE n := ⟨_, rfl⟩
  obtain ⟨EN, eEN⟩ : ∃ s, s = eN n := ⟨_, rfl⟩
  have HKC : Hid (∀ w' u', Nin w' n u' → Calls Try.prog 12 #[.agg (nc n u').toArray] w' fun e w'' => e = .returned (.int .i64 ((d : Nat) : Int)) ∧ Below w'.heap.size w' w'') := fun w' u' k => by rw [ed]; exact check_any k
  have HKE : Hid (∀ w' u', Nin w' n u' → Calls Try.prog 8 #[.agg (nc n u').toArray] w' fun e w'' => ∃ v, e = .returned (.tuple #[v, .int .i64 ((d : Nat) : Int)]) ∧ Ans w' w'' v EN) := fun w' u' k => by rw [ed, eEN]; exact nencode_any k
  rw [← ed, ← eEN] at K1
  obtain ⟨S, eS⟩ : ∃ S, S = sB EN := ⟨_, rfl⟩
  have HCV : Hid (∀ {w' : World} {v : Value}, Vb w' v EN → (convert 22 9 v).run Try.prog w' = .ok (.string S) w') := fun k => by rw [eS]; exact conv_vb k
  have edd : (((d : Nat) : Int) == ((d : Nat) : Int)) = true := by simp
  have ess : (S.toList == S.toList) = true := by simp
  have H1 : Hid (Nin (w.alloc (.cells (nc n u).toArray 29)) n u ∧ Nb (w.alloc (.cells (nc n u).toArray 29)) w.heap.size n u ∧ Below w.heap.size w (w.alloc (.cells (nc n u).toArray 29))) := ⟨nin1, nbA, B1⟩
  clear h B1 nin1 ed eEN eS
  go_enter Try.func7, Try.ntmps7
  go_wp2_with (first
    | refine wpList_ld29 (by kernel_rfl) _ (by rfl) w.heap.size n u hW nbA (by rfl) ?_
    | (go_at_call 22; go_loud (refine K1.mono ?_; rintro e w2 ⟨v2, rfl, vb2, b2⟩; have nbB := H1.out.2.1.keep b2; have K2 := lnodeOf_any (H1.out.1.keep b2); have H2 : Hid (Nin w2 n u ∧ Nb w2 w.heap.size n u ∧ Below w.heap.size w w2 ∧ Vb w2 v2 EN) := ⟨H1.out.1.keep b2, nbB, ch H1.out.2.2 b2, vb2⟩; obtain ⟨a2, _, _, c2, rfl, _⟩ := vb2; clear b2 K1 nbA H1))
    | refine wpList_ld29 (by kernel_rfl) _ (by rfl) w.heap.size n u hW nbB (by rfl) ?_
    | (go_at_call 23; go_loud (refine K2.mono ?_; rintro e w3 ⟨u3, rfl, nr3, b3⟩; have on3 := nr3.nin.one; have nr := nr3.below (below_alloc w3 (.cells (nc n u3).toArray 29)); have B3 := ch b3 (below_alloc w3 (.cells (nc n u3).toArray 29)); have nb3 := nb_new hW w3 u3; have K3 := HKC.out _ u3 nr.nin; have H3 : Hid (Nin (w3.alloc (.cells (nc n u3).toArray 29)) n u ∧ Nb (w3.alloc (.cells (nc n u3).toArray 29)) w.heap.size n u ∧ Below w.heap.size w (w3.alloc (.cells (nc n u3).toArray 29)) ∧ Vb (w3.alloc (.cells (nc n u3).toArray 29)) (.slice a2 EN.length c2) EN ∧ Nry (fun q => w2.heap.size + 2 ≤ q) (w3.alloc (.cells (nc n u3).toArray 29)) n u3 ∧ Nb (w3.alloc (.cells (nc n u3).toArray 29)) w3.heap.size n u3) := ⟨H2.out.1.keep B3, H2.out.2.1.keep B3, ch H2.out.2.2.1 B3, Rel.keep H2.out.2.2.2 B3, nr, nb3⟩; clear nr3 nr b3 B3 K2 nbB H2))
    | refine wpList_st29 (by kernel_rfl) _ _ (by rfl) n zz u3 uu hW zW on3 (by rfl) (by rfl) ?_
    | refine wpList_ld29 (by kernel_rfl) _ (by rfl) w3.heap.size n u3 hW nb3 (by rfl) ?_
    | (go_at_call 12; go_loud (refine K3.mono ?_; rintro e w4 ⟨rfl, b4⟩; have nb4 := H3.out.2.2.2.2.2.keep b4; have K4 := HKE.out _ u3 (H3.out.2.2.2.2.1.below b4).nin; have H4 : Hid (Nin w4 n u ∧ Nb w4 w.heap.size n u ∧ Below w.heap.size w w4 ∧ Vb w4 (.slice a2 EN.length c2) EN ∧ Nry (fun q => w2.heap.size + 2 ≤ q) w4 n u3 ∧ Nb w4 w3.heap.size n u3) := ⟨H3.out.1.keep b4, H3.out.2.1.keep b4, ch H3.out.2.2.1 b4, Rel.keep H3.out.2.2.2.1 b4, H3.out.2.2.2.2.1.below b4, nb4⟩; clear b4 K3 nb3 H3))
    | refine wpList_ld29 (by kernel_rfl) _ (by rfl) w3.heap.size n u3 hW nb4 (by rfl) ?_
    | (go_at_call 8; go_loud (refine K4.mono ?_; rintro e w5 ⟨v5, rfl, an⟩; have Kn := num_any w5 ((d : Nat) : Int); have cv5 := HCV.out an.vb; have cv2 := HCV.out (Rel.keep H4.out.2.2.2.1 an.below); have KA := apart1 an.own an.byt an.len an.below.size; obtain ⟨a5, c5, rfl⟩ := an.form; have H5 : Hid (Below w4.heap.size w4 w5) := an.below; clear an K4 nb4))
    | (go_at_call 9; refine Kn.mono ?_; rintro e w6 ⟨rfl, rfl⟩)
    | (go_at_call 15; go_loud (refine KA.mono ?_; rintro e w7 ⟨rfl, b7⟩; have B7 := H5.out.trans b7; have nbX := H4.out.2.1.keep B7; have nbY := H4.out.2.2.2.2.2.keep B7; have K7 := asWas_any (H4.out.2.2.2.2.1.below B7) (H4.out.1.keep B7); have H7 : Hid (Below w.heap.size w w7) := ch H4.out.2.2.1 B7; clear b7 B7 KA cv5 cv2 Kn H4 H5))
    | refine wpList_ld29 (by kernel_rfl) _ (by rfl) w3.heap.size n u3 hW nbY (by rfl) ?_
    | refine wpList_ld29 (by kernel_rfl) _ (by rfl) w.heap.size n u hW nbX (by rfl) ?_
    | (go_at_call 24; go_loud (refine K7.mono ?_; rintro e w8 ⟨rfl, b8⟩; have K8 := known_any w8; have H8 : Hid (Below w.heap.size w w8) := ch H7.out b8; clear b8 K7 nbX nbY H7))
    | (go_at_call 10; go_loud (refine K8.mono ?_; rintro e w9 ⟨rfl, b9⟩; have H9 : Hid (Below w.heap.size w w9) := ch H8.out b9; clear b9 K8 H8)))
  go_ret
  exact ⟨rfl, H9.out⟩
end Go.Proofs.Ytadcbhjmbgenbaa
