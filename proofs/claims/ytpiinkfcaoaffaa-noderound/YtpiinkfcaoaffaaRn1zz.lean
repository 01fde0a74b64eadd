import Derived.Test.YtpiinkfcaoaffaaRn0zz
/-
  NodeRound: a node that may not be.
-/
namespace Go.Proofs.Ytpiinkfcaoaffaa
open Go.RowKit
set_option maxRecDepth 100000 in
set_option maxHeartbeats 3200000 in
theorem rnd_no1 (w : World) (n : Nd) (u : Nv) (h : Nin w n u) (o : Nd) (t : Nv) (h' : Nin w o t) (v : Value) (s : List Nat) (hs : Vb w v s) (hm : mayN KD n = false) (hd : decN KD s = none) : Calls Try.prog 3 #[.agg (nc n u).toArray, .agg (nc o t).toArray, v] w fun e w' => e = .returned (.bool true) ∧ Below w.heap.size w w' := by
  have hz := zv29
  obtain ⟨z, ez⟩ : ∃ z, z = nz := ⟨_, rfl⟩
  have zW : z.W := by rw [ez]; exact nz_w
  have HEZ : Hid (z = nz) := ez
  clear ez
  have B0 : Below w.heap.size w ((w.alloc (.cells (nc n u).toArray 29)).alloc (.cells (nc o t).toArray 29)) := (below_alloc _ _).alloc (by simp) _
  have hn := h.W
  have ho := h'.W
  have nbn := (nb_new h.W w u).keep (below_alloc (w.alloc (.cells (nc n u).toArray 29)) (.cells (nc o t).toArray 29))
  have nbo := nb_new h'.W (w.alloc (.cells (nc n u).toArray 29)) t
  rw [World.size_alloc] at nbo
  have HN : Hid (∀ {w' : World}, Below ((w.alloc (.cells (nc n u).toArray 29)).alloc (.cells (nc o t).toArray 29)).heap.size ((w.alloc (.cells (nc n u).toArray 29)).alloc (.cells (nc o t).toArray 29)) w' → Nb w' w.heap.size n u ∧ Nb w' (w.heap.size + 1) o t) := fun k => ⟨nbn.keep k, nbo.keep k⟩
  have HW : Hid (Nin w n u ∧ Nin w o t ∧ Vb w v s ∧ Below w.heap.size w ((w.alloc (.cells (nc n u).toArray 29)).alloc (.cells (nc o t).toArray 29))) := ⟨h, h', hs, B0⟩
  have KN : ∀ (w0 : World) (e : Int), Calls Try.prog 9 #[.int .i64 e] w0 fun r w' => r = .returned (.int .i64 e) ∧ w0 = w' := fun w0 e => (num_any w0 e).mono (fun _ _ h => ⟨h.1, h.2.symm⟩)
  have K0 := known_any ((w.alloc (.cells (nc n u).toArray 29)).alloc (.cells (nc o t).toArray 29))
  obtain ⟨aS, bS, oS, cS, rfl, -, -, -, -⟩ := hs
  obtain ⟨lS, eS⟩ : ∃ m, m = s.length := ⟨_, rfl⟩
  rw [← eS]
  have HLS : Hid (lS = s.length) := eS
  rw [eS.symm] at HW
  clear h h' nbn nbo eS
  have HKD : Hid (∀ {w' : World}, Below ((w.alloc (.cells (nc n u).toArray 29)).alloc (.cells (nc o t).toArray 29)).heap.size ((w.alloc (.cells (nc n u).toArray 29)).alloc (.cells (nc o t).toArray 29)) w' → Calls Try.prog 8 #[.slice aS lS cS] w' fun e w'' => ∃ u, e = .returned (.tuple #[.agg (nc z u).toArray, .int .i64 70]) ∧ Nin w'' z u ∧ Below w'.heap.size w' w'') := fun {w'} k => by
    refine (ndecode_any s w' _ (Rel.keep HW.out.2.2.1 (ch HW.out.2.2.2 k))).mono ?_
    rintro e w'' ⟨u, rfl, no, b⟩
    obtain ⟨e1, e2⟩ := dE_none hd
    rw [e2] at no
    rw [HEZ.out]
    exact ⟨u, by rw [e1, e2]; rfl, no.inn, b⟩
  clear hd
  have HE : Hid (eE n = 70 ∧ eN n = []) := eE_no hm
  clear hm
  go_enter Try.func3, Try.ntmps3
  go_wp2_with (first
    | refine wpList_ld29 (by kernel_rfl) _ (by rfl) _ _ _ hn nb (by rfl) ?_
    | (go_at_call 5; refine K0.mono ?_; rintro e w1 ⟨rfl, b1⟩; have HB1 : Hid (Below ((w.alloc (.cells (nc n u).toArray 29)).alloc (.cells (nc o t).toArray 29)).heap.size ((w.alloc (.cells (nc n u).toArray 29)).alloc (.cells (nc o t).toArray 29)) w1) := b1; have nb := (HN.out b1).1; have KE := nencode_any (HW.out.1.keep (ch HW.out.2.2.2 b1)); rw [HE.out.1, HE.out.2] at KE; clear b1 K0)
    | (go_at_call 6; refine KE.mono ?_; rintro e w2 ⟨v2, rfl, an⟩; obtain ⟨a2, c2, rfl⟩ := an.form; have HB2 : Hid (Below ((w.alloc (.cells (nc n u).toArray 29)).alloc (.cells (nc o t).toArray 29)).heap.size ((w.alloc (.cells (nc n u).toArray 29)).alloc (.cells (nc o t).toArray 29)) w2) := ch HB1.out an.below; have nb := (HN.out HB2.out).1; have KC := check_any (HW.out.1.keep (ch HW.out.2.2.2 HB2.out)); rw [HE.out.1] at KC; clear an KE)
    | (go_at_call 7; refine KC.mono ?_; rintro e w3 ⟨rfl, b3⟩; have HB3 : Hid (Below ((w.alloc (.cells (nc n u).toArray 29)).alloc (.cells (nc o t).toArray 29)).heap.size ((w.alloc (.cells (nc n u).toArray 29)).alloc (.cells (nc o t).toArray 29)) w3) := ch HB2.out b3; have KD := HKD.out HB3.out; clear b3 KC nb)
    | (go_at_call 9; refine (KN _ _).mono ?_; rintro e w' ⟨rfl, rfl⟩)
    | (go_at_call 8; refine KD.mono ?_; rintro e wd ⟨ud, rfl, nind, bd⟩; have oned := nind.one; have nbd := nb_new zW wd ud; have HBD : Hid (Below w.heap.size w (wd.alloc (.cells (nc z ud).toArray 29))) := ch (ch (ch HW.out.2.2.2 HB3.out) bd) (below_alloc _ _); have KSS := same_loop (n := z) (m := nz) (u := ud) (t := uz) (nind.keep (below_alloc wd (.cells (nc z ud).toArray 29))) (nin_zero _); rw [decide_eq_true HEZ.out] at KSS; clear bd KD nind)
    | refine wpList_st29 (by kernel_rfl) _ _ (by rfl) z nz ud uz zW nz_w oned (by rfl) (by rfl) ?_
    | refine wpList_ld29 (by kernel_rfl) _ (by rfl) _ _ _ zW nbd (by rfl) ?_
    | refine wpList_bd29 (by kernel_rfl) (by rfl) ?_
    | (go_at_call 10; refine KSS.mono ?_; rintro e wz ⟨rfl, bz⟩; have HBZ : Hid (Below w.heap.size w wz) := ch HBD.out bz; clear bz KSS))
  go_ret
  exact ⟨rfl, HBZ.out⟩
set_option maxRecDepth 100000 in
set_option maxHeartbeats 3200000 in
theorem rnd_no2 (w : World) (n : Nd) (u : Nv) (h : Nin w n u) (o : Nd) (t : Nv) (h' : Nin w o t) (v : Value) (s : List Nat) (hs : Vb w v s) (hm : mayN KD n = false) {q : Nd} (hd : decN KD s = some q) : Calls Try.prog 3 #[.agg (nc n u).toArray, .agg (nc o t).toArray, v] w fun e w' => e = .returned (.bool true) ∧ Below w.heap.size w w' := by
  have hz := zv29
  obtain ⟨z, ez⟩ : ∃ z, z = nz := ⟨_, rfl⟩
  have zW : z.W := by rw [ez]; exact nz_w
  have HEZ : Hid (z = nz) := ez
  clear ez
  have B0 : Below w.heap.size w ((w.alloc (.cells (nc n u).toArray 29)).alloc (.cells (nc o t).toArray 29)) := (below_alloc _ _).alloc (by simp) _
  have hn := h.W
  have ho := h'.W
  have nbn := (nb_new h.W w u).keep (below_alloc (w.alloc (.cells (nc n u).toArray 29)) (.cells (nc o t).toArray 29))
  have nbo := nb_new h'.W (w.alloc (.cells (nc n u).toArray 29)) t
  rw [World.size_alloc] at nbo
  have HN : Hid (∀ {w' : World}, Below ((w.alloc (.cells (nc n u).toArray 29)).alloc (.cells (nc o t).toArray 29)).heap.size ((w.alloc (.cells (nc n u).toArray 29)).alloc (.cells (nc o t).toArray 29)) w' → Nb w' w.heap.size n u ∧ Nb w' (w.heap.size + 1) o t) := fun k => ⟨nbn.keep k, nbo.keep k⟩
  have HW : Hid (Nin w n u ∧ Nin w o t ∧ Vb w v s ∧ Below w.heap.size w ((w.alloc (.cells (nc n u).toArray 29)).alloc (.cells (nc o t).toArray 29))) := ⟨h, h', hs, B0⟩
  have KN : ∀ (w0 : World) (e : Int), Calls Try.prog 9 #[.int .i64 e] w0 fun r w' => r = .returned (.int .i64 e) ∧ w0 = w' := fun w0 e => (num_any w0 e).mono (fun _ _ h => ⟨h.1, h.2.symm⟩)
  have K0 := known_any ((w.alloc (.cells (nc n u).toArray 29)).alloc (.cells (nc o t).toArray 29))
  obtain ⟨aS, bS, oS, cS, rfl, -, -, -, -⟩ := hs
  obtain ⟨lS, eS⟩ : ∃ m, m = s.length := ⟨_, rfl⟩
  rw [← eS]
  have HLS : Hid (lS = s.length) := eS
  rw [eS.symm] at HW
  clear h h' nbn nbo eS
  obtain ⟨qW, qm, qe⟩ := (decN_iff (vb_byt HW.out.2.2.1)).1 hd
  have HQ : Hid (eE q = 0 ∧ eN q = s) := ⟨(eE_yes qm).1, by rw [(eE_yes qm).2, qe]⟩
  have HKD : Hid (∀ {w' : World}, Below ((w.alloc (.cells (nc n u).toArray 29)).alloc (.cells (nc o t).toArray 29)).heap.size ((w.alloc (.cells (nc n u).toArray 29)).alloc (.cells (nc o t).toArray 29)) w' → Calls Try.prog 8 #[.slice aS lS cS] w' fun e w'' => ∃ u, e = .returned (.tuple #[.agg (nc q u).toArray, .int .i64 0]) ∧ Nin w'' q u ∧ Below w'.heap.size w' w'') := fun {w'} k => (ndec_some (Rel.keep HW.out.2.2.1 (ch HW.out.2.2.2 k)) hd).mono (fun _ _ ⟨u, e, no, b⟩ => ⟨u, e, no.inn, b⟩)
  clear qm qe hd
  have HE : Hid (eE n = 70 ∧ eN n = []) := eE_no hm
  clear hm
  go_enter Try.func3, Try.ntmps3
  go_wp2_with (first
    | refine wpList_ld29 (by kernel_rfl) _ (by rfl) _ _ _ hn nb (by rfl) ?_
    | (go_at_call 5; refine K0.mono ?_; rintro e w1 ⟨rfl, b1⟩; have HB1 : Hid (Below ((w.alloc (.cells (nc n u).toArray 29)).alloc (.cells (nc o t).toArray 29)).heap.size ((w.alloc (.cells (nc n u).toArray 29)).alloc (.cells (nc o t).toArray 29)) w1) := b1; have nb := (HN.out b1).1; have KE := nencode_any (HW.out.1.keep (ch HW.out.2.2.2 b1)); rw [HE.out.1, HE.out.2] at KE; clear b1 K0)
    | (go_at_call 6; refine KE.mono ?_; rintro e w2 ⟨v2, rfl, an⟩; obtain ⟨a2, c2, rfl⟩ := an.form; have HB2 : Hid (Below ((w.alloc (.cells (nc n u).toArray 29)).alloc (.cells (nc o t).toArray 29)).heap.size ((w.alloc (.cells (nc n u).toArray 29)).alloc (.cells (nc o t).toArray 29)) w2) := ch HB1.out an.below; have nb := (HN.out HB2.out).1; have KC := check_any (HW.out.1.keep (ch HW.out.2.2.2 HB2.out)); rw [HE.out.1] at KC; clear an KE)
    | (go_at_call 7; refine KC.mono ?_; rintro e w3 ⟨rfl, b3⟩; have HB3 : Hid (Below ((w.alloc (.cells (nc n u).toArray 29)).alloc (.cells (nc o t).toArray 29)).heap.size ((w.alloc (.cells (nc n u).toArray 29)).alloc (.cells (nc o t).toArray 29)) w3) := ch HB2.out b3; have KD := HKD.out HB3.out; clear b3 KC nb)
    | (go_at_call 9; refine (KN _ _).mono ?_; rintro e w' ⟨rfl, rfl⟩)
    | (go_at_call 8; refine KD.mono ?_; rintro e wd ⟨ud, rfl, nind, bd⟩; have oned := nind.one; have nbd := nb_new qW wd ud; have HBD : Hid (Below w.heap.size w (wd.alloc (.cells (nc q ud).toArray 29)) ∧ Nin (wd.alloc (.cells (nc q ud).toArray 29)) q ud ∧ Nb (wd.alloc (.cells (nc q ud).toArray 29)) wd.heap.size q ud) := ⟨ch (ch (ch HW.out.2.2.2 HB3.out) bd) (below_alloc _ _), nind.keep (below_alloc _ _), nbd⟩; have KQ := nencode_any HBD.out.2.1; rw [HQ.out.1, HQ.out.2] at KQ; clear bd KD nind)
    | refine wpList_st29 (by kernel_rfl) _ _ (by rfl) q nz ud uz qW nz_w oned (by rfl) (by rfl) ?_
    | refine wpList_ld29 (by kernel_rfl) _ (by rfl) _ _ _ qW nbd (by rfl) ?_
    | refine wpList_ld29 (by kernel_rfl) _ (by rfl) _ _ _ qW nbq (by rfl) ?_
    | (go_at_call 6; refine KQ.mono ?_; rintro e wq ⟨vq, rfl, anq⟩; obtain ⟨aq, cq, rfl⟩ := anq.form; have HAQ : Hid (Ans (wd.alloc (.cells (nc q ud).toArray 29)) wq (.slice aq s.length cq) s) := anq; have nbq := HBD.out.2.2.keep anq.below; have KC := check_any (HBD.out.2.1.keep anq.below); rw [HQ.out.1] at KC; clear anq KQ)
    | (go_at_call 7; refine KC.mono ?_; rintro e wz ⟨rfl, bz⟩; have cv1 := conv_vb (Rel.keep HAQ.out.vb bz); have cv2 := conv_vb (Rel.keep HW.out.2.2.1 (ch (ch HBD.out.1 HAQ.out.below) bz)); have HBZ : Hid (Below w.heap.size w wz) := ch (ch HBD.out.1 HAQ.out.below) bz; generalize sB s = S at cv1 cv2; clear bz KC))
  go_ret
  exact ⟨rfl, HBZ.out⟩
end Go.Proofs.Ytpiinkfcaoaffaa
