import Derived.Test.YtpiinkfcaoaffaaRn0zz
/-
  NodeRound: two nodes that may be.
-/
namespace Go.Proofs.Ytpiinkfcaoaffaa
open Go.RowKit
set_option maxRecDepth 100000 in
set_option maxHeartbeats 3200000 in
theorem rnd_yy1 (w : World) (n : Nd) (u : Nv) (h : Nin w n u) (o : Nd) (t : Nv) (h' : Nin w o t) (v : Value) (s : List Nat) (hs : Vb w v s) (hm : mayN KD n = true) (hm2 : mayN KD o = true) (hd : decN KD s = none) : Calls Try.prog 3 #[.agg (nc n u).toArray, .agg (nc o t).toArray, v] w fun e w' => e = .returned (.bool true) ∧ Below w.heap.size w w' := by
  have hz := zv29
  obtain ⟨z, ez⟩ : ∃ z, z = nz := ⟨_, rfl⟩
  have zW : z.W := by rw [ez]; exact nz_w
  have HEZ : Hid (z = nz) := ez
  clear ez
  have B0 : Below w.heap.size w ((w.alloc (.cells (nc n u).toArray 29)).alloc (.cells (nc o t).toArray 29)) := (below_alloc _ _).alloc (by simp) _
  have hn := h.W
  have ho := h'.W
  have nbn := (nb_new h.W w u).keep (below_alloc (w.alloc (.cells (nc n u).toArray 29)) (.cells (nc o t).toArray 29))
  have nbo := nb_new h'.W (w.alloc (.cells (nc n u).toArray 29)) t
  rw [World.size_alloc] at nbo
  have HN : Hid (∀ {w' : World}, Below ((w.alloc (.cells (nc n u).toArray 29)).alloc (.cells (nc o t).toArray 29)).heap.size ((w.alloc (.cells (nc n u).toArray 29)).alloc (.cells (nc o t).toArray 29)) w' → Nb w' w.heap.size n u ∧ Nb w' (w.heap.size + 1) o t) := fun k => ⟨nbn.keep k, nbo.keep k⟩
  have HW : Hid (Nin w n u ∧ Nin w o t ∧ Vb w v s ∧ Below w.heap.size w ((w.alloc (.cells (nc n u).toArray 29)).alloc (.cells (nc o t).toArray 29))) := ⟨h, h', hs, B0⟩
  have KN : ∀ (w0 : World) (e : Int), Calls Try.prog 9 #[.int .i64 e] w0 fun r w' => r = .returned (.int .i64 e) ∧ w0 = w' := fun w0 e => (num_any w0 e).mono (fun _ _ h => ⟨h.1, h.2.symm⟩)
  have K0 := known_any ((w.alloc (.cells (nc n u).toArray 29)).alloc (.cells (nc o t).toArray 29))
  obtain ⟨aS, bS, oS, cS, rfl, -, -, -, -⟩ := hs
  obtain ⟨lS, eS⟩ : ∃ m, m = s.length := ⟨_, rfl⟩
  rw [← eS]
  have HLS : Hid (lS = s.length) := eS
  rw [eS.symm] at HW
  clear h h' nbn nbo eS
  have HKD : Hid (∀ {w' : World}, Below ((w.alloc (.cells (nc n u).toArray 29)).alloc (.cells (nc o t).toArray 29)).heap.size ((w.alloc (.cells (nc n u).toArray 29)).alloc (.cells (nc o t).toArray 29)) w' → Calls Try.prog 8 #[.slice aS lS cS] w' fun e w'' => ∃ u, e = .returned (.tuple #[.agg (nc z u).toArray, .int .i64 70]) ∧ Nin w'' z u ∧ Below w'.heap.size w' w'') := fun {w'} k => by
    refine (ndecode_any s w' _ (Rel.keep HW.out.2.2.1 (ch HW.out.2.2.2 k))).mono ?_
    rintro e w'' ⟨u, rfl, no, b⟩
    obtain ⟨e1, e2⟩ := dE_none hd
    rw [e2] at no
    rw [HEZ.out]
    exact ⟨u, by rw [e1, e2]; rfl, no.inn, b⟩
  clear hd
  have HE : Hid (eE n = 0 ∧ eN n = encN n) := eE_yes hm
  have ni := ni_may hn hm
  obtain ⟨b, eb⟩ : ∃ b, b = encN n := ⟨_, rfl⟩
  have hL2 : 2 ≤ b.length := by rw [eb]; exact ni.low
  have hL1 : b.length ≤ 1024 := by rw [eb]; exact ni.len
  have HBE : Hid (b = encN n ∧ mayN KD n = true) := ⟨eb, hm⟩
  have jl1 : ¬ (b.length : Int) < 2 := by omega
  have jl2 : ¬ (1024 : Int) < (b.length : Int) := by omega
  rw [← eb] at HE
  clear ni eb hm
  have HO : Hid (eE o = 0 ∧ eN o = encN o) := eE_yes hm2
  have HEQ : Hid (b = encN o ↔ n = o) := ⟨fun e => encN_inj hn HBE.out.2 ho hm2 (by rw [← HBE.out.1, e]), fun e => by rw [HBE.out.1, e]⟩
  obtain ⟨c, ec⟩ : ∃ c, c = encN o := ⟨_, rfl⟩
  rw [← ec] at HO HEQ
  clear hm2 ec
  go_enter Try.func3, Try.ntmps3
  go_upto_region 9 with (first
    | refine wpList_ld29 (by kernel_rfl) _ (by rfl) _ _ _ hn nb (by rfl) ?_
    | (go_at_call 5; refine K0.mono ?_; rintro e w1 ⟨rfl, b1⟩; have HB1 : Hid (Below ((w.alloc (.cells (nc n u).toArray 29)).alloc (.cells (nc o t).toArray 29)).heap.size ((w.alloc (.cells (nc n u).toArray 29)).alloc (.cells (nc o t).toArray 29)) w1) := b1; have nb := (HN.out b1).1; have KE := nencode_any (HW.out.1.keep (ch HW.out.2.2.2 b1)); rw [HE.out.1, HE.out.2] at KE; clear b1 K0)
    | (go_at_call 6; refine KE.mono ?_; rintro e w2 ⟨v2, rfl, an⟩; obtain ⟨aE, cE, rfl⟩ := an.form; have HA : Hid (Ans w1 w2 (.slice aE b.length cE) b) := an; have HB2 : Hid (Below ((w.alloc (.cells (nc n u).toArray 29)).alloc (.cells (nc o t).toArray 29)).heap.size ((w.alloc (.cells (nc n u).toArray 29)).alloc (.cells (nc o t).toArray 29)) w2) := ch HB1.out an.below; have nb := (HN.out HB2.out).1; have KC := check_any (HW.out.1.keep (ch HW.out.2.2.2 HB2.out)); rw [HE.out.1] at KC; clear an KE)
    | (go_at_call 7; refine KC.mono ?_; rintro e w3 ⟨rfl, b3⟩; have HB3 : Hid (Below ((w.alloc (.cells (nc n u).toArray 29)).alloc (.cells (nc o t).toArray 29)).heap.size ((w.alloc (.cells (nc n u).toArray 29)).alloc (.cells (nc o t).toArray 29)) w3 ∧ Below w2.heap.size w2 w3) := ⟨ch HB2.out b3, b3⟩; have own0 := World.ownsRow_lit (base := w3.heap.size) (e := 5) (size := 1) w3 #[] 0 (Nat.le_refl _) (by decide) rfl; obtain ⟨gE, oE, hvE, hnE⟩ := vb_view (Rel.keep HA.out.vb (ch b3 (below_alloc w3 (.cells #[] 5)))); clear b3 KC nb)
    | (refine wpList_append_bytes (by rfl) (.tmp 28) (.tmp 29) (by rfl) w3.heap.size _ 0 [] (by rfl) own0 aE gE oE b.length cE _ (by rfl) hvE hnE (by omega) (by simp) ?_; intro v4 w4 own4 gr4 nn4; have own4' : w4.ownsRow w3.heap.size 5 1 v4 b.length (bv b) := (by rw [← vals_bv b]; simpa using own4); have b4 : Below w3.heap.size w3 w4 := (below_alloc w3 _).trans (grown_below gr4 own0 (Nat.le_refl _) (by simp)); obtain ⟨a4, c4, rfl⟩ := own_slice own4'; have HB4 : Hid (Below ((w.alloc (.cells (nc n u).toArray 29)).alloc (.cells (nc o t).toArray 29)).heap.size ((w.alloc (.cells (nc n u).toArray 29)).alloc (.cells (nc o t).toArray 29)) w4) := ch HB3.out.1 b4; have KD1 := ndec_some (n := n) (vb_of_own own4' rfl HA.out.byt (by omega)) (by rw [HBE.out.1]; exact decN_enc hn HBE.out.2); have HAB : Hid (Below w2.heap.size w2 w4) := ch HB3.out.2 b4; clear own4 own4' gr4 nn4 own0 b4 hvE hnE)
    | (go_at_call 8; refine KD1.mono ?_; rintro e w5 ⟨u5, rfl, no5, b5⟩; have one5 := no5.inn.one; have nb5 := nb_new hn w5 u5; have HB5 : Hid (Below ((w.alloc (.cells (nc n u).toArray 29)).alloc (.cells (nc o t).toArray 29)).heap.size ((w.alloc (.cells (nc n u).toArray 29)).alloc (.cells (nc o t).toArray 29)) (w5.alloc (.cells (nc n u5).toArray 29)) ∧ Below w2.heap.size w2 (w5.alloc (.cells (nc n u5).toArray 29))) := ⟨ch (ch HB4.out b5) (below_alloc _ _), ch (ch HAB.out b5) (below_alloc _ _)⟩; have nb := (HN.out HB5.out.1).1; have KS := same_loop (n := n) (m := n) (no5.inn.keep (below_alloc w5 (.cells (nc n u5).toArray 29))) (HW.out.1.keep (ch HW.out.2.2.2 HB5.out.1)); rw [decide_eq_true rfl] at KS; clear no5 b5 KD1)
    | refine wpList_st29 (by kernel_rfl) _ _ (by rfl) n nz u5 uz hn nz_w one5 (by rfl) (by rfl) ?_
    | refine wpList_ld29 (by kernel_rfl) _ (by rfl) _ _ _ hn nb5 (by rfl) ?_
    | refine wpList_ld29 (by kernel_rfl) _ (by rfl) _ _ _ ho nbo (by rfl) ?_
    | (go_at_call 10; refine KS.mono ?_; rintro e w6 ⟨rfl, b6⟩; have HB6 : Hid (Below ((w.alloc (.cells (nc n u).toArray 29)).alloc (.cells (nc o t).toArray 29)).heap.size ((w.alloc (.cells (nc n u).toArray 29)).alloc (.cells (nc o t).toArray 29)) w6 ∧ Below w2.heap.size w2 w6) := ⟨ch HB5.out.1 b6, ch HB5.out.2 b6⟩; have nbo := (HN.out HB6.out.1).2; have KO := nencode_any (HW.out.2.1.keep (ch HW.out.2.2.2 HB6.out.1)); rw [HO.out.1, HO.out.2] at KO; clear b6 KS nb nb5)
    | (go_at_call 6; refine KO.mono ?_; rintro e w8 ⟨v8, rfl, an8⟩; obtain ⟨a8, c8, rfl⟩ := an8.form; have HB8 : Hid (Below ((w.alloc (.cells (nc n u).toArray 29)).alloc (.cells (nc o t).toArray 29)).heap.size ((w.alloc (.cells (nc n u).toArray 29)).alloc (.cells (nc o t).toArray 29)) w8 ∧ Below w2.heap.size w2 w8 ∧ Ans w6 w8 (.slice a8 c.length c8) c) := ⟨ch HB6.out.1 an8.below, ch HB6.out.2 an8.below, an8⟩; clear an8 KO nbo)
    | (go_at_call 9; refine (KN _ _).mono ?_; rintro e w' ⟨rfl, rfl⟩))
  have HSV : Hid (∀ w', Below w8.heap.size w8 w' → (convert 22 9 (.slice aE b.length cE)).run Try.prog w' = .ok (.string (sB b)) w' ∧ (convert 22 9 (.slice a8 c.length c8)).run Try.prog w' = .ok (.string (sB c)) w' ∧ w'.rangeAt w.heap.size 0 (nc n u) ∧ w'.rangeAt (w.heap.size + 1) 0 (nc o t)) := fun w' k => ⟨conv_vb (Rel.keep HA.out.vb (ch HB8.out.2.1 k)), conv_vb (Rel.keep HB8.out.2.2.vb k), (HN.out (ch HB8.out.1 k)).1.all, (HN.out (ch HB8.out.1 k)).2.all⟩
  have KSO : Hid (Calls Try.prog 10 #[.agg (nc n u).toArray, .agg (nc o t).toArray] w8.drew fun e w' => e = .returned (.bool (decide (n = o))) ∧ Below w8.drew.heap.size w8.drew w') := same_loop (HW.out.1.keep (ch HW.out.2.2.2 (ch HB8.out.1 (Below.drew (Below.refl _ _))))) (HW.out.2.1.keep (ch HW.out.2.2.2 (ch HB8.out.1 (Below.drew (Below.refl _ _)))))
  have HEE : Hid (((sB b).toList == (sB c).toList) = decide (n = o)) := by
    show _ = _
    by_cases e : n = o
    · rw [decide_eq_true e, HEQ.out.2 e]; simp
    · rw [decide_eq_false e]; exact (sB_ne HA.out.byt HB8.out.2.2.byt (fun q => e (HEQ.out.1 q))).2.1
  obtain ⟨D, eD⟩ : ∃ D, D = decide (n = o) := ⟨_, rfl⟩
  rw [← eD] at KSO HEE
  clear eD
  refine wp_region_held_drew (S := fun w' => Below w8.heap.size w8 w') (by kernel_rfl) (Below.drew (Below.refl _ _)) ?_
  intro hS
  change wpAnyH _ _ _ _ _ 14 _ _ _
  refine wpAnyH_take (i := 0) (v := (.int .i64 0)) (by simp only [List.getElem?_toArray, List.getElem?_cons_zero]; rfl) (by kernel_rfl) (by kernel_rfl) (by kernel_rfl) (by exact fun _ _ _ h => h) (y_move (by kernel_rfl) _ rfl _ rfl) hS ?_
  try simp only [Act.put, List.setIfInBounds_toArray, List.set_cons_zero, List.set_cons_succ]
  refine wpAnyH_ready (rs := [1]) (by kernel_rfl) (by simp) ?_
  refine AllReadyH.cons (by simp only [List.getElem?_toArray, List.getElem?_cons_zero, List.getElem?_cons_succ]; rfl) (fun K hK => ?_) AllReadyH.nil
  refine r_call1 9 _ _ rfl (by kernel_rfl) _ rfl eNum ?_
  refine (num_any _ 0).mono ?_
  rintro e w9 ⟨rfl, rfl⟩
  refine ⟨_, rfl, ?_⟩
  refine hK.out _ _ (Below.drew (Below.refl _ _)) (fun hS => ?_)
  clear hK K
  try simp only [Act.put, List.setIfInBounds_toArray, List.set_cons_zero, List.set_cons_succ]
  refine wpAnyH_take (i := 2) (v := (.bool true)) (by simp only [List.getElem?_toArray, List.getElem?_cons_zero, List.getElem?_cons_succ]; rfl) (by kernel_rfl) (by kernel_rfl) (by kernel_rfl) (by exact fun _ _ _ h => h) (y_eqlIr (by kernel_rfl) _ _ rfl 0 0 rfl rfl true rfl) hS ?_
  try simp only [Act.put, List.setIfInBounds_toArray, List.set_cons_zero, List.set_cons_succ]
  refine wpAnyH_take (i := 3) (v := (.bool true)) (by simp only [List.getElem?_toArray, List.getElem?_cons_zero, List.getElem?_cons_succ]; rfl) (by kernel_rfl) (by kernel_rfl) (by kernel_rfl) (by exact fun _ _ _ h => h) (y_move (by kernel_rfl) _ rfl _ rfl) hS ?_
  try simp only [Act.put, List.setIfInBounds_toArray, List.set_cons_zero, List.set_cons_succ]
  refine wpAnyH_take (i := 4) (v := (.slice aE b.length cE)) (by simp only [List.getElem?_toArray, List.getElem?_cons_zero, List.getElem?_cons_succ]; rfl) (by kernel_rfl) (by kernel_rfl) (by kernel_rfl) (by exact fun _ _ _ h => h) (y_move (by kernel_rfl) _ rfl _ rfl) hS ?_
  try simp only [Act.put, List.setIfInBounds_toArray, List.set_cons_zero, List.set_cons_succ]
  refine wpAnyH_take (i := 5) (v := (.string (sB b))) (by simp only [List.getElem?_toArray, List.getElem?_cons_zero, List.getElem?_cons_succ]; rfl) (by kernel_rfl) (by kernel_rfl) (by kernel_rfl) (by exact fun _ _ _ h => h) (y_conv (by kernel_rfl) _ rfl (.slice aE b.length cE) (.string (sB b)) rfl (fun w' hs => (HSV.out w' hs).1)) hS ?_
  try simp only [Act.put, List.setIfInBounds_toArray, List.set_cons_zero, List.set_cons_succ]
  refine wpAnyH_take (i := 6) (v := (.slice a8 c.length c8)) (by simp only [List.getElem?_toArray, List.getElem?_cons_zero, List.getElem?_cons_succ]; rfl) (by kernel_rfl) (by kernel_rfl) (by kernel_rfl) (by exact fun _ _ _ h => h) (y_move (by kernel_rfl) _ rfl _ rfl) hS ?_
  try simp only [Act.put, List.setIfInBounds_toArray, List.set_cons_zero, List.set_cons_succ]
  refine wpAnyH_take (i := 7) (v := (.string (sB c))) (by simp only [List.getElem?_toArray, List.getElem?_cons_zero, List.getElem?_cons_succ]; rfl) (by kernel_rfl) (by kernel_rfl) (by kernel_rfl) (by exact fun _ _ _ h => h) (y_conv (by kernel_rfl) _ rfl (.slice a8 c.length c8) (.string (sB c)) rfl (fun w' hs => (HSV.out w' hs).2.1)) hS ?_
  try simp only [Act.put, List.setIfInBounds_toArray, List.set_cons_zero, List.set_cons_succ]
  refine wpAnyH_take (i := 8) (v := (.bool D)) (by simp only [List.getElem?_toArray, List.getElem?_cons_zero, List.getElem?_cons_succ]; rfl) (by kernel_rfl) (by kernel_rfl) (by kernel_rfl) (by exact fun _ _ _ h => h) (y_eqlSr (by kernel_rfl) _ _ rfl _ _ rfl rfl D HEE.out) hS ?_
  try simp only [Act.put, List.setIfInBounds_toArray, List.set_cons_zero, List.set_cons_succ]
  refine wpAnyH_take (i := 9) (v := (.agg (nc n u).toArray)) (by simp only [List.getElem?_toArray, List.getElem?_cons_zero, List.getElem?_cons_succ]; rfl) (by kernel_rfl) (by kernel_rfl) (by kernel_rfl) (by exact fun _ _ _ h => h) (y_ld29 (by kernel_rfl) _ rfl _ rfl n u hn (fun w' hs => (HSV.out w' hs).2.2.1)) hS ?_
  try simp only [Act.put, List.setIfInBounds_toArray, List.set_cons_zero, List.set_cons_succ]
  refine wpAnyH_take (i := 10) (v := (.agg (nc o t).toArray)) (by simp only [List.getElem?_toArray, List.getElem?_cons_zero, List.getElem?_cons_succ]; rfl) (by kernel_rfl) (by kernel_rfl) (by kernel_rfl) (by exact fun _ _ _ h => h) (y_ld29 (by kernel_rfl) _ rfl _ rfl o t ho (fun w' hs => (HSV.out w' hs).2.2.2)) hS ?_
  try simp only [Act.put, List.setIfInBounds_toArray, List.set_cons_zero, List.set_cons_succ]
  refine wpAnyH_ready (rs := [11]) (by kernel_rfl) (by simp) ?_
  refine AllReadyH.cons (by simp only [List.getElem?_toArray, List.getElem?_cons_zero, List.getElem?_cons_succ]; rfl) (fun K hK => ?_) AllReadyH.nil
  refine r_call2 10 _ _ _ rfl (by kernel_rfl) _ _ rfl rfl eSame ?_
  refine KSO.out.mono ?_
  rintro e w9 ⟨rfl, b9⟩
  refine ⟨_, rfl, ?_⟩
  refine hK.out _ _ (ch (Below.drew (Below.refl _ _)) b9) (fun hS => ?_)
  clear b9
  clear hK K
  try simp only [Act.put, List.setIfInBounds_toArray, List.set_cons_zero, List.set_cons_succ]
  refine wpAnyH_take (i := 12) (v := (.bool false)) (by simp only [List.getElem?_toArray, List.getElem?_cons_zero, List.getElem?_cons_succ]; rfl) (by kernel_rfl) (by kernel_rfl) (by kernel_rfl) (by exact fun _ _ _ h => h) (y_neqBs (by kernel_rfl) _ _ rfl D rfl rfl) hS ?_
  try simp only [Act.put, List.setIfInBounds_toArray, List.set_cons_zero, List.set_cons_succ]
  refine wpAnyH_take (i := 13) (v := (.bool false)) (by simp only [List.getElem?_toArray, List.getElem?_cons_zero, List.getElem?_cons_succ]; rfl) (by kernel_rfl) (by kernel_rfl) (by kernel_rfl) (by exact fun _ _ _ h => h) (y_pick_t (by kernel_rfl) _ _ _ rfl _ rfl rfl) hS ?_
  try simp only [Act.put, List.setIfInBounds_toArray, List.set_cons_zero, List.set_cons_succ]
  refine wpAnyH_done (by kernel_rfl) ?_ _
  have HB9 : Hid (Below ((w.alloc (.cells (nc n u).toArray 29)).alloc (.cells (nc o t).toArray 29)).heap.size ((w.alloc (.cells (nc n u).toArray 29)).alloc (.cells (nc o t).toArray 29)) w9) := ch HB8.out.1 hS
  have KD := HKD.out HB9.out
  clear hS
  go_wp2_with (first
    | (go_at_call 9; refine (KN _ _).mono ?_; rintro e w' ⟨rfl, rfl⟩)
    | (go_at_call 8; refine KD.mono ?_; rintro e wd ⟨ud, rfl, nind, bd⟩; have oned := nind.one; have nbd := nb_new zW wd ud; have HBD : Hid (Below w.heap.size w (wd.alloc (.cells (nc z ud).toArray 29))) := ch (ch (ch HW.out.2.2.2 HB9.out) bd) (below_alloc _ _); have KSS := same_loop (n := z) (m := nz) (u := ud) (t := uz) (nind.keep (below_alloc wd (.cells (nc z ud).toArray 29))) (nin_zero _); rw [decide_eq_true HEZ.out] at KSS; clear bd KD nind)
    | refine wpList_st29 (by kernel_rfl) _ _ (by rfl) z nz ud uz zW nz_w oned (by rfl) (by rfl) ?_
    | refine wpList_ld29 (by kernel_rfl) _ (by rfl) _ _ _ zW nbd (by rfl) ?_
    | refine wpList_bd29 (by kernel_rfl) (by rfl) ?_
    | (go_at_call 10; refine KSS.mono ?_; rintro e wz ⟨rfl, bz⟩; have HBZ : Hid (Below w.heap.size w wz) := ch HBD.out bz; clear bz KSS))
  go_ret
  exact ⟨rfl, HBZ.out⟩
set_option maxRecDepth 100000 in
set_option maxHeartbeats 3200000 in
theorem rnd_yy2 (w : World) (n : Nd) (u : Nv) (h : Nin w n u) (o : Nd) (t : Nv) (h' : Nin w o t) (v : Value) (s : List Nat) (hs : Vb w v s) (hm : mayN KD n = true) (hm2 : mayN KD o = true) {q : Nd} (hd : decN KD s = some q) : Calls Try.prog 3 #[.agg (nc n u).toArray, .agg (nc o t).toArray, v] w fun e w' => e = .returned (.bool true) ∧ Below w.heap.size w w' := by
  have hz := zv29
  obtain ⟨z, ez⟩ : ∃ z, z = nz := ⟨_, rfl⟩
  have zW : z.W := by rw [ez]; exact nz_w
  have HEZ : Hid (z = nz) := ez
  clear ez
  have B0 : Below w.heap.size w ((w.alloc (.cells (nc n u).toArray 29)).alloc (.cells (nc o t).toArray 29)) := (below_alloc _ _).alloc (by simp) _
  have hn := h.W
  have ho := h'.W
  have nbn := (nb_new h.W w u).keep (below_alloc (w.alloc (.cells (nc n u).toArray 29)) (.cells (nc o t).toArray 29))
  have nbo := nb_new h'.W (w.alloc (.cells (nc n u).toArray 29)) t
  rw [World.size_alloc] at nbo
  have HN : Hid (∀ {w' : World}, Below ((w.alloc (.cells (nc n u).toArray 29)).alloc (.cells (nc o t).toArray 29)).heap.size ((w.alloc (.cells (nc n u).toArray 29)).alloc (.cells (nc o t).toArray 29)) w' → Nb w' w.heap.size n u ∧ Nb w' (w.heap.size + 1) o t) := fun k => ⟨nbn.keep k, nbo.keep k⟩
  have HW : Hid (Nin w n u ∧ Nin w o t ∧ Vb w v s ∧ Below w.heap.size w ((w.alloc (.cells (nc n u).toArray 29)).alloc (.cells (nc o t).toArray 29))) := ⟨h, h', hs, B0⟩
  have KN : ∀ (w0 : World) (e : Int), Calls Try.prog 9 #[.int .i64 e] w0 fun r w' => r = .returned (.int .i64 e) ∧ w0 = w' := fun w0 e => (num_any w0 e).mono (fun _ _ h => ⟨h.1, h.2.symm⟩)
  have K0 := known_any ((w.alloc (.cells (nc n u).toArray 29)).alloc (.cells (nc o t).toArray 29))
  obtain ⟨aS, bS, oS, cS, rfl, -, -, -, -⟩ := hs
  obtain ⟨lS, eS⟩ : ∃ m, m = s.length := ⟨_, rfl⟩
  rw [← eS]
  have HLS : Hid (lS = s.length) := eS
  rw [eS.symm] at HW
  clear h h' nbn nbo eS
  obtain ⟨qW, qm, qe⟩ := (decN_iff (vb_byt HW.out.2.2.1)).1 hd
  have HQ : Hid (eE q = 0 ∧ eN q = s) := ⟨(eE_yes qm).1, by rw [(eE_yes qm).2, qe]⟩
  have HKD : Hid (∀ {w' : World}, Below ((w.alloc (.cells (nc n u).toArray 29)).alloc (.cells (nc o t).toArray 29)).heap.size ((w.alloc (.cells (nc n u).toArray 29)).alloc (.cells (nc o t).toArray 29)) w' → Calls Try.prog 8 #[.slice aS lS cS] w' fun e w'' => ∃ u, e = .returned (.tuple #[.agg (nc q u).toArray, .int .i64 0]) ∧ Nin w'' q u ∧ Below w'.heap.size w' w'') := fun {w'} k => (ndec_some (Rel.keep HW.out.2.2.1 (ch HW.out.2.2.2 k)) hd).mono (fun _ _ ⟨u, e, no, b⟩ => ⟨u, e, no.inn, b⟩)
  clear qm qe hd
  have HE : Hid (eE n = 0 ∧ eN n = encN n) := eE_yes hm
  have ni := ni_may hn hm
  obtain ⟨b, eb⟩ : ∃ b, b = encN n := ⟨_, rfl⟩
  have hL2 : 2 ≤ b.length := by rw [eb]; exact ni.low
  have hL1 : b.length ≤ 1024 := by rw [eb]; exact ni.len
  have HBE : Hid (b = encN n ∧ mayN KD n = true) := ⟨eb, hm⟩
  have jl1 : ¬ (b.length : Int) < 2 := by omega
  have jl2 : ¬ (1024 : Int) < (b.length : Int) := by omega
  rw [← eb] at HE
  clear ni eb hm
  have HO : Hid (eE o = 0 ∧ eN o = encN o) := eE_yes hm2
  have HEQ : Hid (b = encN o ↔ n = o) := ⟨fun e => encN_inj hn HBE.out.2 ho hm2 (by rw [← HBE.out.1, e]), fun e => by rw [HBE.out.1, e]⟩
  obtain ⟨c, ec⟩ : ∃ c, c = encN o := ⟨_, rfl⟩
  rw [← ec] at HO HEQ
  clear hm2 ec
  go_enter Try.func3, Try.ntmps3
  go_upto_region 9 with (first
    | refine wpList_ld29 (by kernel_rfl) _ (by rfl) _ _ _ hn nb (by rfl) ?_
    | (go_at_call 5; refine K0.mono ?_; rintro e w1 ⟨rfl, b1⟩; have HB1 : Hid (Below ((w.alloc (.cells (nc n u).toArray 29)).alloc (.cells (nc o t).toArray 29)).heap.size ((w.alloc (.cells (nc n u).toArray 29)).alloc (.cells (nc o t).toArray 29)) w1) := b1; have nb := (HN.out b1).1; have KE := nencode_any (HW.out.1.keep (ch HW.out.2.2.2 b1)); rw [HE.out.1, HE.out.2] at KE; clear b1 K0)
    | (go_at_call 6; refine KE.mono ?_; rintro e w2 ⟨v2, rfl, an⟩; obtain ⟨aE, cE, rfl⟩ := an.form; have HA : Hid (Ans w1 w2 (.slice aE b.length cE) b) := an; have HB2 : Hid (Below ((w.alloc (.cells (nc n u).toArray 29)).alloc (.cells (nc o t).toArray 29)).heap.size ((w.alloc (.cells (nc n u).toArray 29)).alloc (.cells (nc o t).toArray 29)) w2) := ch HB1.out an.below; have nb := (HN.out HB2.out).1; have KC := check_any (HW.out.1.keep (ch HW.out.2.2.2 HB2.out)); rw [HE.out.1] at KC; clear an KE)
    | (go_at_call 7; refine KC.mono ?_; rintro e w3 ⟨rfl, b3⟩; have HB3 : Hid (Below ((w.alloc (.cells (nc n u).toArray 29)).alloc (.cells (nc o t).toArray 29)).heap.size ((w.alloc (.cells (nc n u).toArray 29)).alloc (.cells (nc o t).toArray 29)) w3 ∧ Below w2.heap.size w2 w3) := ⟨ch HB2.out b3, b3⟩; have own0 := World.ownsRow_lit (base := w3.heap.size) (e := 5) (size := 1) w3 #[] 0 (Nat.le_refl _) (by decide) rfl; obtain ⟨gE, oE, hvE, hnE⟩ := vb_view (Rel.keep HA.out.vb (ch b3 (below_alloc w3 (.cells #[] 5)))); clear b3 KC nb)
    | (refine wpList_append_bytes (by rfl) (.tmp 28) (.tmp 29) (by rfl) w3.heap.size _ 0 [] (by rfl) own0 aE gE oE b.length cE _ (by rfl) hvE hnE (by omega) (by simp) ?_; intro v4 w4 own4 gr4 nn4; have own4' : w4.ownsRow w3.heap.size 5 1 v4 b.length (bv b) := (by rw [← vals_bv b]; simpa using own4); have b4 : Below w3.heap.size w3 w4 := (below_alloc w3 _).trans (grown_below gr4 own0 (Nat.le_refl _) (by simp)); obtain ⟨a4, c4, rfl⟩ := own_slice own4'; have HB4 : Hid (Below ((w.alloc (.cells (nc n u).toArray 29)).alloc (.cells (nc o t).toArray 29)).heap.size ((w.alloc (.cells (nc n u).toArray 29)).alloc (.cells (nc o t).toArray 29)) w4) := ch HB3.out.1 b4; have KD1 := ndec_some (n := n) (vb_of_own own4' rfl HA.out.byt (by omega)) (by rw [HBE.out.1]; exact decN_enc hn HBE.out.2); have HAB : Hid (Below w2.heap.size w2 w4) := ch HB3.out.2 b4; clear own4 own4' gr4 nn4 own0 b4 hvE hnE)
    | (go_at_call 8; refine KD1.mono ?_; rintro e w5 ⟨u5, rfl, no5, b5⟩; have one5 := no5.inn.one; have nb5 := nb_new hn w5 u5; have HB5 : Hid (Below ((w.alloc (.cells (nc n u).toArray 29)).alloc (.cells (nc o t).toArray 29)).heap.size ((w.alloc (.cells (nc n u).toArray 29)).alloc (.cells (nc o t).toArray 29)) (w5.alloc (.cells (nc n u5).toArray 29)) ∧ Below w2.heap.size w2 (w5.alloc (.cells (nc n u5).toArray 29))) := ⟨ch (ch HB4.out b5) (below_alloc _ _), ch (ch HAB.out b5) (below_alloc _ _)⟩; have nb := (HN.out HB5.out.1).1; have KS := same_loop (n := n) (m := n) (no5.inn.keep (below_alloc w5 (.cells (nc n u5).toArray 29))) (HW.out.1.keep (ch HW.out.2.2.2 HB5.out.1)); rw [decide_eq_true rfl] at KS; clear no5 b5 KD1)
    | refine wpList_st29 (by kernel_rfl) _ _ (by rfl) n nz u5 uz hn nz_w one5 (by rfl) (by rfl) ?_
    | refine wpList_ld29 (by kernel_rfl) _ (by rfl) _ _ _ hn nb5 (by rfl) ?_
    | refine wpList_ld29 (by kernel_rfl) _ (by rfl) _ _ _ ho nbo (by rfl) ?_
    | (go_at_call 10; refine KS.mono ?_; rintro e w6 ⟨rfl, b6⟩; have HB6 : Hid (Below ((w.alloc (.cells (nc n u).toArray 29)).alloc (.cells (nc o t).toArray 29)).heap.size ((w.alloc (.cells (nc n u).toArray 29)).alloc (.cells (nc o t).toArray 29)) w6 ∧ Below w2.heap.size w2 w6) := ⟨ch HB5.out.1 b6, ch HB5.out.2 b6⟩; have nbo := (HN.out HB6.out.1).2; have KO := nencode_any (HW.out.2.1.keep (ch HW.out.2.2.2 HB6.out.1)); rw [HO.out.1, HO.out.2] at KO; clear b6 KS nb nb5)
    | (go_at_call 6; refine KO.mono ?_; rintro e w8 ⟨v8, rfl, an8⟩; obtain ⟨a8, c8, rfl⟩ := an8.form; have HB8 : Hid (Below ((w.alloc (.cells (nc n u).toArray 29)).alloc (.cells (nc o t).toArray 29)).heap.size ((w.alloc (.cells (nc n u).toArray 29)).alloc (.cells (nc o t).toArray 29)) w8 ∧ Below w2.heap.size w2 w8 ∧ Ans w6 w8 (.slice a8 c.length c8) c) := ⟨ch HB6.out.1 an8.below, ch HB6.out.2 an8.below, an8⟩; clear an8 KO nbo)
    | (go_at_call 9; refine (KN _ _).mono ?_; rintro e w' ⟨rfl, rfl⟩))
  have HSV : Hid (∀ w', Below w8.heap.size w8 w' → (convert 22 9 (.slice aE b.length cE)).run Try.prog w' = .ok (.string (sB b)) w' ∧ (convert 22 9 (.slice a8 c.length c8)).run Try.prog w' = .ok (.string (sB c)) w' ∧ w'.rangeAt w.heap.size 0 (nc n u) ∧ w'.rangeAt (w.heap.size + 1) 0 (nc o t)) := fun w' k => ⟨conv_vb (Rel.keep HA.out.vb (ch HB8.out.2.1 k)), conv_vb (Rel.keep HB8.out.2.2.vb k), (HN.out (ch HB8.out.1 k)).1.all, (HN.out (ch HB8.out.1 k)).2.all⟩
  have KSO : Hid (Calls Try.prog 10 #[.agg (nc n u).toArray, .agg (nc o t).toArray] w8.drew fun e w' => e = .returned (.bool (decide (n = o))) ∧ Below w8.drew.heap.size w8.drew w') := same_loop (HW.out.1.keep (ch HW.out.2.2.2 (ch HB8.out.1 (Below.drew (Below.refl _ _))))) (HW.out.2.1.keep (ch HW.out.2.2.2 (ch HB8.out.1 (Below.drew (Below.refl _ _)))))
  have HEE : Hid (((sB b).toList == (sB c).toList) = decide (n = o)) := by
    show _ = _
    by_cases e : n = o
    · rw [decide_eq_true e, HEQ.out.2 e]; simp
    · rw [decide_eq_false e]; exact (sB_ne HA.out.byt HB8.out.2.2.byt (fun q => e (HEQ.out.1 q))).2.1
  obtain ⟨D, eD⟩ : ∃ D, D = decide (n = o) := ⟨_, rfl⟩
  rw [← eD] at KSO HEE
  clear eD
  refine wp_region_held_drew (S := fun w' => Below w8.heap.size w8 w') (by kernel_rfl) (Below.drew (Below.refl _ _)) ?_
  intro hS
  change wpAnyH _ _ _ _ _ 14 _ _ _
  refine wpAnyH_take (i := 0) (v := (.int .i64 0)) (by simp only [List.getElem?_toArray, List.getElem?_cons_zero]; rfl) (by kernel_rfl) (by kernel_rfl) (by kernel_rfl) (by exact fun _ _ _ h => h) (y_move (by kernel_rfl) _ rfl _ rfl) hS ?_
  try simp only [Act.put, List.setIfInBounds_toArray, List.set_cons_zero, List.set_cons_succ]
  refine wpAnyH_ready (rs := [1]) (by kernel_rfl) (by simp) ?_
  refine AllReadyH.cons (by simp only [List.getElem?_toArray, List.getElem?_cons_zero, List.getElem?_cons_succ]; rfl) (fun K hK => ?_) AllReadyH.nil
  refine r_call1 9 _ _ rfl (by kernel_rfl) _ rfl eNum ?_
  refine (num_any _ 0).mono ?_
  rintro e w9 ⟨rfl, rfl⟩
  refine ⟨_, rfl, ?_⟩
  refine hK.out _ _ (Below.drew (Below.refl _ _)) (fun hS => ?_)
  clear hK K
  try simp only [Act.put, List.setIfInBounds_toArray, List.set_cons_zero, List.set_cons_succ]
  refine wpAnyH_take (i := 2) (v := (.bool true)) (by simp only [List.getElem?_toArray, List.getElem?_cons_zero, List.getElem?_cons_succ]; rfl) (by kernel_rfl) (by kernel_rfl) (by kernel_rfl) (by exact fun _ _ _ h => h) (y_eqlIr (by kernel_rfl) _ _ rfl 0 0 rfl rfl true rfl) hS ?_
  try simp only [Act.put, List.setIfInBounds_toArray, List.set_cons_zero, List.set_cons_succ]
  refine wpAnyH_take (i := 3) (v := (.bool true)) (by simp only [List.getElem?_toArray, List.getElem?_cons_zero, List.getElem?_cons_succ]; rfl) (by kernel_rfl) (by kernel_rfl) (by kernel_rfl) (by exact fun _ _ _ h => h) (y_move (by kernel_rfl) _ rfl _ rfl) hS ?_
  try simp only [Act.put, List.setIfInBounds_toArray, List.set_cons_zero, List.set_cons_succ]
  refine wpAnyH_take (i := 4) (v := (.slice aE b.length cE)) (by simp only [List.getElem?_toArray, List.getElem?_cons_zero, List.getElem?_cons_succ]; rfl) (by kernel_rfl) (by kernel_rfl) (by kernel_rfl) (by exact fun _ _ _ h => h) (y_move (by kernel_rfl) _ rfl _ rfl) hS ?_
  try simp only [Act.put, List.setIfInBounds_toArray, List.set_cons_zero, List.set_cons_succ]
  refine wpAnyH_take (i := 5) (v := (.string (sB b))) (by simp only [List.getElem?_toArray, List.getElem?_cons_zero, List.getElem?_cons_succ]; rfl) (by kernel_rfl) (by kernel_rfl) (by kernel_rfl) (by exact fun _ _ _ h => h) (y_conv (by kernel_rfl) _ rfl (.slice aE b.length cE) (.string (sB b)) rfl (fun w' hs => (HSV.out w' hs).1)) hS ?_
  try simp only [Act.put, List.setIfInBounds_toArray, List.set_cons_zero, List.set_cons_succ]
  refine wpAnyH_take (i := 6) (v := (.slice a8 c.length c8)) (by simp only [List.getElem?_toArray, List.getElem?_cons_zero, List.getElem?_cons_succ]; rfl) (by kernel_rfl) (by kernel_rfl) (by kernel_rfl) (by exact fun _ _ _ h => h) (y_move (by kernel_rfl) _ rfl _ rfl) hS ?_
  try simp only [Act.put, List.setIfInBounds_toArray, List.set_cons_zero, List.set_cons_succ]
  refine wpAnyH_take (i := 7) (v := (.string (sB c))) (by simp only [List.getElem?_toArray, List.getElem?_cons_zero, List.getElem?_cons_succ]; rfl) (by kernel_rfl) (by kernel_rfl) (by kernel_rfl) (by exact fun _ _ _ h => h) (y_conv (by kernel_rfl) _ rfl (.slice a8 c.length c8) (.string (sB c)) rfl (fun w' hs => (HSV.out w' hs).2.1)) hS ?_
  try simp only [Act.put, List.setIfInBounds_toArray, List.set_cons_zero, List.set_cons_succ]
  refine wpAnyH_take (i := 8) (v := (.bool D)) (by simp only [List.getElem?_toArray, List.getElem?_cons_zero, List.getElem?_cons_succ]; rfl) (by kernel_rfl) (by kernel_rfl) (by kernel_rfl) (by exact fun _ _ _ h => h) (y_eqlSr (by kernel_rfl) _ _ rfl _ _ rfl rfl D HEE.out) hS ?_
  try simp only [Act.put, List.setIfInBounds_toArray, List.set_cons_zero, List.set_cons_succ]
  refine wpAnyH_take (i := 9) (v := (.agg (nc n u).toArray)) (by simp only [List.getElem?_toArray, List.getElem?_cons_zero, List.getElem?_cons_succ]; rfl) (by kernel_rfl) (by kernel_rfl) (by kernel_rfl) (by exact fun _ _ _ h => h) (y_ld29 (by kernel_rfl) _ rfl _ rfl n u hn (fun w' hs => (HSV.out w' hs).2.2.1)) hS ?_
  try simp only [Act.put, List.setIfInBounds_toArray, List.set_cons_zero, List.set_cons_succ]
  refine wpAnyH_take (i := 10) (v := (.agg (nc o t).toArray)) (by simp only [List.getElem?_toArray, List.getElem?_cons_zero, List.getElem?_cons_succ]; rfl) (by kernel_rfl) (by kernel_rfl) (by kernel_rfl) (by exact fun _ _ _ h => h) (y_ld29 (by kernel_rfl) _ rfl _ rfl o t ho (fun w' hs => (HSV.out w' hs).2.2.2)) hS ?_
  try simp only [Act.put, List.setIfInBounds_toArray, List.set_cons_zero, List.set_cons_succ]
  refine wpAnyH_ready (rs := [11]) (by kernel_rfl) (by simp) ?_
  refine AllReadyH.cons (by simp only [List.getElem?_toArray, List.getElem?_cons_zero, List.getElem?_cons_succ]; rfl) (fun K hK => ?_) AllReadyH.nil
  refine r_call2 10 _ _ _ rfl (by kernel_rfl) _ _ rfl rfl eSame ?_
  refine KSO.out.mono ?_
  rintro e w9 ⟨rfl, b9⟩
  refine ⟨_, rfl, ?_⟩
  refine hK.out _ _ (ch (Below.drew (Below.refl _ _)) b9) (fun hS => ?_)
  clear b9
  clear hK K
  try simp only [Act.put, List.setIfInBounds_toArray, List.set_cons_zero, List.set_cons_succ]
  refine wpAnyH_take (i := 12) (v := (.bool false)) (by simp only [List.getElem?_toArray, List.getElem?_cons_zero, List.getElem?_cons_succ]; rfl) (by kernel_rfl) (by kernel_rfl) (by kernel_rfl) (by exact fun _ _ _ h => h) (y_neqBs (by kernel_rfl) _ _ rfl D rfl rfl) hS ?_
  try simp only [Act.put, List.setIfInBounds_toArray, List.set_cons_zero, List.set_cons_succ]
  refine wpAnyH_take (i := 13) (v := (.bool false)) (by simp only [List.getElem?_toArray, List.getElem?_cons_zero, List.getElem?_cons_succ]; rfl) (by kernel_rfl) (by kernel_rfl) (by kernel_rfl) (by exact fun _ _ _ h => h) (y_pick_t (by kernel_rfl) _ _ _ rfl _ rfl rfl) hS ?_
  try simp only [Act.put, List.setIfInBounds_toArray, List.set_cons_zero, List.set_cons_succ]
  refine wpAnyH_done (by kernel_rfl) ?_ _
  have HB9 : Hid (Below ((w.alloc (.cells (nc n u).toArray 29)).alloc (.cells (nc o t).toArray 29)).heap.size ((w.alloc (.cells (nc n u).toArray 29)).alloc (.cells (nc o t).toArray 29)) w9) := ch HB8.out.1 hS
  have KD := HKD.out HB9.out
  clear hS
  go_wp2_with (first
    | (go_at_call 9; refine (KN _ _).mono ?_; rintro e w' ⟨rfl, rfl⟩)
    | (go_at_call 8; refine KD.mono ?_; rintro e wd ⟨ud, rfl, nind, bd⟩; have oned := nind.one; have nbd := nb_new qW wd ud; have HBD : Hid (Below w.heap.size w (wd.alloc (.cells (nc q ud).toArray 29)) ∧ Nin (wd.alloc (.cells (nc q ud).toArray 29)) q ud ∧ Nb (wd.alloc (.cells (nc q ud).toArray 29)) wd.heap.size q ud) := ⟨ch (ch (ch HW.out.2.2.2 HB9.out) bd) (below_alloc _ _), nind.keep (below_alloc _ _), nbd⟩; have KQ := nencode_any HBD.out.2.1; rw [HQ.out.1, HQ.out.2] at KQ; clear bd KD nind)
    | refine wpList_st29 (by kernel_rfl) _ _ (by rfl) q nz ud uz qW nz_w oned (by rfl) (by rfl) ?_
    | refine wpList_ld29 (by kernel_rfl) _ (by rfl) _ _ _ qW nbd (by rfl) ?_
    | refine wpList_ld29 (by kernel_rfl) _ (by rfl) _ _ _ qW nbq (by rfl) ?_
    | (go_at_call 6; refine KQ.mono ?_; rintro e wq ⟨vq, rfl, anq⟩; obtain ⟨aq, cq, rfl⟩ := anq.form; have HAQ : Hid (Ans (wd.alloc (.cells (nc q ud).toArray 29)) wq (.slice aq s.length cq) s) := anq; have nbq := HBD.out.2.2.keep anq.below; have KC := check_any (HBD.out.2.1.keep anq.below); rw [HQ.out.1] at KC; clear anq KQ)
    | (go_at_call 7; refine KC.mono ?_; rintro e wz ⟨rfl, bz⟩; have cv1 := conv_vb (Rel.keep HAQ.out.vb bz); have cv2 := conv_vb (Rel.keep HW.out.2.2.1 (ch (ch HBD.out.1 HAQ.out.below) bz)); have HBZ : Hid (Below w.heap.size w wz) := ch (ch HBD.out.1 HAQ.out.below) bz; generalize sB s = S at cv1 cv2; clear bz KC))
  go_ret
  exact ⟨rfl, HBZ.out⟩
end Go.Proofs.Ytpiinkfcaoaffaa
