/-
  OctetAll: the law's walk.
-/
import Derived.Test.YtglnjacaeefddaaDoorAllC
namespace Go.Proofs.YtglnjacaeefddaaDoor
open Go.RowKit Go.Sort

set_option maxHeartbeats 6400000 in
set_option maxRecDepth 100000 in
theorem all_walk (w : World) (a b f t : Option Addr) (ab ao n ca bb bo m cb fb fo nf fc tb to nt tc : Nat) (o : Bool) (s : ByteArray) (A B F T : Nat → Int) (hT : Tab w)
    (ha : View w a ab ao n A) (hb : View w b bb bo m B) (hf : View w f fb fo nf F) (ht : View w t tb to nt T)
    (na : a = none → ca = 0) (nb : b = none → cb = 0) (nnf : f = none → fc = 0) (nnt : t = none → tc = 0)
    (hn : n ≤ 1048576) (hm : m ≤ 1048576) (hnf : nf ≤ 1048576) (hnt : nt ≤ 1048576) (hs : s.size ≤ 1048576) :
    Calls Tryd.prog 6 #[.agg #[.slice a n ca, .slice b m cb, .slice f nf fc, .slice t nt tc, .bool o, .string s]] w fun e w' => e = .returned (.bool true) ∧ Below w.heap.size w w' := by
  obtain ⟨w1, hw1⟩ : ∃ w1, w1 = w.alloc (.cells #[.slice a n ca, .slice b m cb, .slice f nf fc, .slice t nt tc, .bool o, .string s] 31) := ⟨_, rfl⟩
  have b1 : Below w.heap.size w w1 := by rw [hw1]; exact (Below.refl _ _).alloc (Nat.le_refl _) _
  have z1 : w1.heap.size = w.heap.size + 1 := by rw [hw1]; simp
  have up : ∀ w', Below w1.heap.size w1 w' → Below w.heap.size w w' := fun w' h => ch b1 h
  have HT : Hid (∀ w', Below w1.heap.size w1 w' → Tab w') := fun w' h => hT.below (up w' h) hT.lt
  have HA : Hid (∀ w', Below w1.heap.size w1 w' → View w' a ab ao n A) := fun w' h => ha.below (up w' h)
  have HB : Hid (∀ w', Below w1.heap.size w1 w' → View w' b bb bo m B) := fun w' h => hb.below (up w' h)
  have HF : Hid (∀ w', Below w1.heap.size w1 w' → View w' f fb fo nf F) := fun w' h => hf.below (up w' h)
  have HTO : Hid (∀ w', Below w1.heap.size w1 w' → View w' t tb to nt T) := fun w' h => ht.below (up w' h)
  have HUP : Hid (∀ w', Below w1.heap.size w1 w' → Below w.heap.size w w') := up
  have bdA : Hid (∀ i, i < n → 0 ≤ A i ∧ A i ≤ 255) := ha.bd
  have bdB : Hid (∀ i, i < m → 0 ≤ B i ∧ B i ≤ 255) := hb.bd
  have bdF : Hid (∀ i, i < nf → 0 ≤ F i ∧ F i ≤ 255) := hf.bd
  have bdT : Hid (∀ i, i < nt → 0 ≤ T i ∧ T i ≤ 255) := ht.bd
  have C0 : Hid (∀ w', Below w1.heap.size w1 w' → w'.cell? ⟨w.heap.size, 0, none⟩ = some (.slice a n ca) ∧ w'.cell? ⟨w.heap.size, 1, none⟩ = some (.slice b m cb) ∧ w'.cell? ⟨w.heap.size, 2, none⟩ = some (.slice f nf fc) ∧ w'.cell? ⟨w.heap.size, 3, none⟩ = some (.slice t nt tc) ∧ w'.cell? ⟨w.heap.size, 4, none⟩ = some (.bool o) ∧ w'.cell? ⟨w.heap.size, 5, none⟩ = some (.string s)) := fun w' h => by
    refine ⟨?_, ?_, ?_, ?_, ?_, ?_⟩ <;> (rw [h.cell (by show w.heap.size < _; omega), hw1, World.cell?_alloc_new]; rfl)
  have KRA : Hid (∀ w', Below w1.heap.size w1 w' → Calls Tryd.prog 15 #[.slice a n ca] w' fun e w'' => ∃ g cap, e = .returned (.slice (some ⟨g, 0, none⟩) n cap) ∧ Roomed w' w'' g n cap A) := fun w' h => roomy_any w' a ab ao n ca A (ha.below (up w' h)) hn na
  have KRB : Hid (∀ w', Below w1.heap.size w1 w' → Calls Tryd.prog 15 #[.slice b m cb] w' fun e w'' => ∃ g cap, e = .returned (.slice (some ⟨g, 0, none⟩) m cap) ∧ Roomed w' w'' g m cap B) := fun w' h => roomy_any w' b bb bo m cb B (hb.below (up w' h)) hm nb
  have KRF : Hid (∀ w', Below w1.heap.size w1 w' → Calls Tryd.prog 15 #[.slice f nf fc] w' fun e w'' => ∃ g cap, e = .returned (.slice (some ⟨g, 0, none⟩) nf cap) ∧ Roomed w' w'' g nf cap F) := fun w' h => roomy_any w' f fb fo nf fc F (hf.below (up w' h)) hnf nnf
  have KRT : Hid (∀ w', Below w1.heap.size w1 w' → Calls Tryd.prog 15 #[.slice t nt tc] w' fun e w'' => ∃ g cap, e = .returned (.slice (some ⟨g, 0, none⟩) nt cap) ∧ Roomed w' w'' g nt cap T) := fun w' h => roomy_any w' t tb to nt tc T (ht.below (up w' h)) hnt nnt
  have HW1 : Hid (w1 = w.alloc (.cells #[.slice a n ca, .slice b m cb, .slice f nf fc, .slice t nt tc, .bool o, .string s] 31)) := hw1
  have Z1 : Hid (w1.heap.size = w.heap.size + 1) := z1
  have e1 : Below w1.heap.size w1 w1 := Below.refl _ _
  clear hT ha hb hf ht up hw1 z1 na nb nnf nnt b1
  go_enter Tryd.func6, Tryd.ntmps6
  go_wp2_with fail
  rw [← HW1.out]
  obtain ⟨c0, c1, c2, c3, c4, c5⟩ := C0.out _ e1
  go_region_held3 (fun w' => w'.cell? ⟨w.heap.size, 0, none⟩ = some (.slice a n ca) ∧ w'.cell? ⟨w.heap.size, 1, none⟩ = some (.slice b m cb))
    (first | (exact ⟨(C0.out _ (by assumption)).1, (C0.out _ (by assumption)).2.1⟩) | (exact ⟨(C0.out _ (Below.drew (by assumption))).1, (C0.out _ (Below.drew (by assumption))).2.1⟩))
    (first
      | (go_at_call_of 15 (Value.slice a n ca); refine (KRA.out _ ?_).mono ?_; exact Below.drew e1; rintro e wa ⟨ga, capA, rfl, ra⟩; have ea : Below w1.heap.size w1 wa := ch (Below.drew e1) ra.below)
      | (go_at_call_of 15 (Value.slice b m cb); refine (KRB.out _ ?_).mono ?_; assumption; rintro e wb ⟨gb, capB, rfl, rb⟩; have eb : Below w1.heap.size w1 wb := ch ea rb.below))
  clear c0 c1 c2 c3 c4 c5
  have va := (ra.view bdA.out (by omega)).below rb.below
  have vb := rb.view bdB.out (by omega)
  go_wp2_with fail
  refine (nibbles_all wb _ _ _ n _ _ va (by omega)).mono ?_
  rintro e w3 ⟨αn, γn, rfl, fn⟩
  have e3 := ch eb fn.below
  go_wp2_with fail
  refine (bytes_all w3 _ _ _ m _ _ (vb.below fn.below)).mono ?_
  rintro e w4 ⟨αm, γm, rfl, fm⟩
  have e4 := ch e3 fm.below
  obtain ⟨c0, c1, c2, c3, c4, c5⟩ := C0.out _ e4
  go_wp2_with fail
  refine (rbytes_all w4 _ _ _ m _ _ (HB.out _ e4) (by omega)).mono ?_
  rintro e w5 ⟨αp, γp, cp, rfl, vp, h5⟩
  have e5 := ch e4 h5
  clear c0 c1 c2 c3 c4 c5
  obtain ⟨c0, c1, c2, c3, c4, c5⟩ := C0.out _ e5
  go_wp2_with fail
  refine (rnibbles_any w5 _ _ _ n _ _ (HA.out _ e5) (by omega)).mono ?_
  rintro e w6 ⟨αq, γq, cq, rfl, vq, h6⟩
  have e6 := ch e5 h6
  clear c0 c1 c2 c3 c4 c5
  go_wp2_with fail
  refine (same_yes w6 _ _ _ _ _ _ _ _ _ _ _ _ ((fn.view (by omega)).below (ch (ch fm.below h5) h6)) vq ⟨rfl, fun _ _ => rfl⟩).mono ?_
  rintro e w7 ⟨rfl, h7, -⟩
  have e7 := ch e6 h7
  go_wp2_with fail
  refine (same_yes w7 _ _ _ _ _ _ _ _ _ _ _ _ ((fm.view (by have := bk_le m B; omega)).below (ch (ch h5 h6) h7)) (vp.below (ch h6 h7)) ⟨rfl, fun _ _ => rfl⟩).mono ?_
  rintro e w8 ⟨rfl, h8, -⟩
  have e8 := ch e7 h8
  have dbw : Below wb.heap.size wb w8 := ch (ch (ch (ch (ch fn.below fm.below) h5) h6) h7) h8
  have dn : Below w3.heap.size w3 w8 := ch (ch (ch (ch fm.below h5) h6) h7) h8
  have dm : Below w4.heap.size w4 w8 := ch (ch (ch h5 h6) h7) h8
  have va8 := va.below dbw
  have vb8 := vb.below dbw
  clear va vb vp vq h5 h6 h7 h8 e3 e4 e5 e6 e7
  have k13 := fun (d : Nat) (os : Array Obj) => Calls.regrown_of ((common_any (grow (redrawn w8 d) os) _ _ _ _ n capA _ _ m capB _ _ (va8.below (below_regrown w8 d os)) (vb8.below (below_regrown w8 d os))).mono fun e w' ⟨he, hq⟩ => ⟨he, (below_of_drew hq).1⟩)
  have k19 := fun (d : Nat) (os : Array Obj) => Calls.regrown_of ((rcommon_any (grow (redrawn w8 d) os) _ _ _ _ n ca _ _ m cb _ _ ((HA.out _ e8).below (below_regrown w8 d os)) ((HB.out _ e8).below (below_regrown w8 d os))).mono fun e w' ⟨he, hq⟩ => ⟨he, (below_of_drew hq).1⟩)
  have k12 := fun (d : Nat) (os : Array Obj) => Calls.regrown_of ((compare_any (grow (redrawn w8 d) os) _ _ _ _ n capA _ _ m capB _ _ (va8.below (below_regrown w8 d os)) (vb8.below (below_regrown w8 d os))).mono fun e w' ⟨he, hq⟩ => ⟨he, (below_of_drew hq).1⟩)
  have k20 := fun (d : Nat) (os : Array Obj) => Calls.regrown_of ((rcompare_any (grow (redrawn w8 d) os) _ _ _ _ n ca _ _ m cb _ _ ((HA.out _ e8).below (below_regrown w8 d os)) ((HB.out _ e8).below (below_regrown w8 d os))).mono fun e w' ⟨he, hq⟩ => ⟨he, (below_of_drew hq).1⟩)
  have k11 := fun (d : Nat) (os : Array Obj) => Calls.regrown_of (hex_any (grow (redrawn w8 d) os) _ _ _ n capA _ (va8.below (below_regrown w8 d os)) (by omega) (HT.out _ (ch e8 (below_regrown w8 d os))))
  have k21 := fun (d : Nat) (os : Array Obj) => Calls.regrown_of ((rhex_any (grow (redrawn w8 d) os) _ _ _ n ca _ ((HA.out _ e8).below (below_regrown w8 d os)) (by omega)).mono fun e w' ⟨he, hq⟩ => ⟨he, (below_of_drew hq).1⟩)
  obtain ⟨c0, c1, c2, c3, c4, c5⟩ := C0.out _ e8
  have s0 := fun (d : Nat) (os : Array Obj) => cell_regrown c0 d os
  have s1 := fun (d : Nat) (os : Array Obj) => cell_regrown c1 d os
  clear c2 c3 c4 c5
  go_wp2
  refine wp_region_quiet_below (by kernel_rfl) (by kernel_rfl) ?_
  repeat (first
    | go_big_quiet_step (first | (go_at_call 13; exact k13 _ _) | (go_at_call 19; exact k19 _ _) | (go_at_call 12; exact k12 _ _) | (go_at_call 20; exact k20 _ _) | (go_at_call 11; exact k11 _ _) | (go_at_call 21; exact k21 _ _))
    | quiet_step (first | (go_at_call 13; exact k13 _ _) | (go_at_call 19; exact k19 _ _) | (go_at_call 12; exact k12 _ _) | (go_at_call 20; exact k20 _ _) | (go_at_call 11; exact k11 _ _) | (go_at_call 21; exact k21 _ _)))
  refine wpQuiet_nil ?_
  intro w9 hw'
  obtain ⟨⟨dq, osq⟩, hw''⟩ := hw'
  have h9 := below_regrown w8 dq osq
  rw [← hw''] at h9
  clear hw'' k13 k19 k12 k20 k11 k21 s0 s1 c0 c1
  have e9 := ch e8 h9
  obtain ⟨c0, c1, c2, c3, c4, c5⟩ := C0.out _ e9
  go_wp2
  go_region_held3 (fun w' => w'.cell? ⟨w.heap.size, 2, none⟩ = some (.slice f nf fc) ∧ w'.cell? ⟨w.heap.size, 3, none⟩ = some (.slice t nt tc))
    (first | (exact ⟨(C0.out _ (by assumption)).2.2.1, (C0.out _ (by assumption)).2.2.2.1⟩) | (exact ⟨(C0.out _ (Below.drew (by assumption))).2.2.1, (C0.out _ (Below.drew (by assumption))).2.2.2.1⟩))
    (first
      | (go_at_call_of 15 (Value.slice f nf fc); refine (KRF.out _ ?_).mono ?_; exact Below.drew e9; rintro e wf ⟨gf, capF, rfl, rf⟩; have ef : Below w1.heap.size w1 wf := ch (Below.drew e9) rf.below)
      | (go_at_call_of 15 (Value.slice t nt tc); refine (KRT.out _ ?_).mono ?_; assumption; rintro e wt ⟨gt, capT, rfl, rt⟩; have et : Below w1.heap.size w1 wt := ch ef rt.below))
  clear c0 c1 c2 c3 c4 c5
  have d8t : Below w8.heap.size w8 wt := ch (ch (Below.drew h9) rf.below) rt.below
  have vat := va8.below d8t
  have vbt := vb8.below d8t
  have vft := (rf.view bdF.out (by omega)).below rt.below
  have vtt := rt.view bdT.out (by omega)
  have dm0 := dm
  have dn := ch dn d8t
  have dm := ch dm d8t
  have dbw := ch dbw d8t
  have z49 : w4.heap.size ≤ w9.heap.size := by have := dm0.size; have := h9.size; omega
  clear va8 vb8 h9 e8 e9 dm0
  have k14 := fun (d : Nat) (os : Array Obj) => Calls.regrown_of (within_any (grow (redrawn wt d) os) _ _ _ _ _ n capA _ _ nf capF _ _ nt capT _ _ _ o (vat.below (below_regrown wt d os)) (vft.below (below_regrown wt d os)) (vtt.below (below_regrown wt d os)))
  have k22 := fun (d : Nat) (os : Array Obj) => Calls.regrown_of (rwithin_any (grow (redrawn wt d) os) _ _ _ _ _ n ca _ _ nf fc _ _ nt tc _ _ _ o ((HA.out _ et).below (below_regrown wt d os)) ((HF.out _ et).below (below_regrown wt d os)) ((HTO.out _ et).below (below_regrown wt d os)))
  obtain ⟨c0, c1, c2, c3, c4, c5⟩ := C0.out _ et
  have s0 := fun (d : Nat) (os : Array Obj) => cell_regrown c0 d os
  have s2 := fun (d : Nat) (os : Array Obj) => cell_regrown c2 d os
  have s3 := fun (d : Nat) (os : Array Obj) => cell_regrown c3 d os
  have s4 := fun (d : Nat) (os : Array Obj) => cell_regrown c4 d os
  clear c1 c5
  go_wp2
  refine wp_region_quiet_below (by kernel_rfl) (by kernel_rfl) ?_
  repeat (first
    | go_big_quiet_step (first | (go_at_call 14; exact k14 _ _) | (go_at_call 22; exact k22 _ _))
    | quiet_step (first | (go_at_call 14; exact k14 _ _) | (go_at_call 22; exact k22 _ _)))
  refine wpQuiet_nil ?_
  intro w11 hw'
  obtain ⟨⟨dq, osq⟩, hw''⟩ := hw'
  have h11 := below_regrown wt dq osq
  rw [← hw''] at h11
  clear hw'' k14 k22 s0 s2 s3 s4 c0 c2 c3 c4
  have e11 := ch et h11
  obtain ⟨c0, c1, c2, c3, c4, c5⟩ := C0.out _ e11
  clear c0 c1 c2 c3 c4
  go_wp2_with fail
  refine (unhex_all w11 s (HT.out _ e11) hs).mono ?_
  rintro e w12 ⟨αu, γu, rfl, fu⟩
  have e12 := ch e11 fu.below
  clear c5
  obtain ⟨c0, c1, c2, c3, c4, c5⟩ := C0.out _ e12
  clear c0 c1 c2 c3 c4
  go_wp2_with fail
  refine (runhex_all w12 s hs).mono ?_
  rintro e w13 ⟨αv, γv, cv, rfl, vv, h13⟩
  have e13 := ch e12 h13
  clear c5
  go_wp2_with fail
  refine (same_yes w13 _ _ _ _ _ _ _ _ _ _ _ _ ((fu.view (by have := uk_le s; omega)).below h13) vv ⟨rfl, fun _ _ => rfl⟩).mono ?_
  rintro e w14 ⟨rfl, h14, -⟩
  have e14 := ch e13 h14
  have dt14 : Below wt.heap.size wt w14 := ch (ch (ch h11 fu.below) h13) h14
  have du : Below w12.heap.size w12 w14 := ch h13 h14
  clear vv
  go_wp2_with fail
  refine (nibbles_all w14 _ _ _ n _ _ (vat.below dt14) (by omega)).mono ?_
  rintro e w15 ⟨αn2, γn2, rfl, fn2⟩
  have e15 := ch e14 fn2.below
  go_wp2_with fail
  refine (bytes_all w15 _ _ _ m _ _ (vbt.below (ch dt14 fn2.below))).mono ?_
  rintro e w16 ⟨αm2, γm2, rfl, fm2⟩
  have e16 := ch e15 fm2.below
  obtain ⟨c0, c1, c2, c3, c4, c5⟩ := C0.out _ e16
  clear c0 c1 c2 c3 c4
  go_wp2_with fail
  refine (unhex_all w16 s (HT.out _ e16) hs).mono ?_
  rintro e w17 ⟨αu2, γu2, rfl, fu2⟩
  have e17 := ch e16 fu2.below
  clear c5
  have d1417 : Below w14.heap.size w14 w17 := ch (ch fn2.below fm2.below) fu2.below
  have ln : 2 * n ≤ 281474976710656 := by omega
  have lbk : bk m B ≤ 281474976710656 := by have := bk_le m B; omega
  have luk : uk s ≤ 281474976710656 := by have := uk_le s; omega
  go_wp2_with fail
  refine (same_yes w17 _ _ _ _ _ _ _ _ _ _ _ _ ((fn2.view ln).below (ch fm2.below fu2.below)) ((fn.view ln).below (ch (ch dn dt14) d1417)) ⟨rfl, fun _ _ => rfl⟩).mono ?_
  rintro e w18 ⟨rfl, h18, -⟩
  go_wp2_with fail
  refine (same_yes w18 _ _ _ _ _ _ _ _ _ _ _ _ ((fm2.view lbk).below (ch fu2.below h18)) ((fm.view lbk).below (ch (ch (ch dm dt14) d1417) h18)) ⟨rfl, fun _ _ => rfl⟩).mono ?_
  rintro e w19 ⟨rfl, h19, -⟩
  go_wp2_with fail
  refine (same_yes w19 _ _ _ _ _ _ _ _ _ _ _ _ ((fu2.view luk).below (ch h18 h19)) ((fu.view luk).below (ch (ch (ch du d1417) h18) h19)) ⟨rfl, fun _ _ => rfl⟩).mono ?_
  rintro e w20 ⟨rfl, h20, -⟩
  have e20 := ch (ch (ch e17 h18) h19) h20
  have d1720 : Below w17.heap.size w17 w20 := ch (ch h18 h19) h20
  clear h18 h19 h20 ln lbk luk
  have dt20 : Below wt.heap.size wt w20 := ch (ch dt14 d1417) d1720
  have d1220 : Below w12.heap.size w12 w20 := ch (ch du d1417) d1720
  have d1520 : Below w15.heap.size w15 w20 := ch (ch fm2.below fu2.below) d1720
  have d1620 : Below w16.heap.size w16 w20 := ch fu2.below d1720
  have d320 : Below w3.heap.size w3 w20 := ch dn dt20
  have d420 : Below w4.heap.size w4 w20 := ch dm dt20
  have zb3 := fn.below.size
  have z34 := fm.below.size
  have z4t := dm.size
  have zt11 := h11.size
  have z1112 := fu.below.size
  have z1214 := du.size
  have z1415 := fn2.below.size
  have z1516 := fm2.below.size
  have z1617 := fu2.below.size
  have z1720 := d1720.size
  have hsix := six_mk w20 (.cells #[.slice αn (2 * n) (2 * n), .slice αm (bk m B) (bk m B), .slice αu (uk s) (uk s), .slice αn2 (2 * n) (2 * n), .slice αm2 (bk m B) (bk m B), .slice αu2 (uk s) (uk s)] 22)
    (pick6 αn αm αu αn2 αm2 αu2) (pick6 γn γm γu γn2 γm2 γu2) (pick6 (2 * n) (bk m B) (uk s) (2 * n) (bk m B) (uk s)) (pick6 (nib A) (join B) (unh s) (nib A) (join B) (unh s))
    (fun r => match r with | 0 => wb.heap.size | 1 => w3.heap.size | 2 => w11.heap.size | 3 => w14.heap.size | 4 => w15.heap.size | 5 => w16.heap.size | _ => w17.heap.size)
    (by simp only [small_cases, World.cell?_alloc_new]; exact ⟨rfl, rfl, rfl, rfl, rfl, rfl, small_none⟩)
    (by simp only [small_cases]; exact ⟨fu2.at_, fm2.at_, fn2.at_, fu.at_, fm.at_, fn.at_, small_none⟩)
    (by have := bk_le m B; have := uk_le s; simp only [small_cases, pick6]; exact ⟨by omega, by omega, by omega, by omega, by omega, by omega, small_none⟩)
    (by simp only [small_cases]; exact ⟨fresh_row fu2 d1720, fresh_row fm2 d1620, fresh_row fn2 d1520, fresh_row fu d1220, fresh_row fm d420, fresh_row fn d320, small_none⟩)
    (by
      simp only [small_cases, pick6]
      refine ⟨fun h => ⟨fu2.low h, (fu2.row h).lt⟩, fun h => ⟨fm2.low h, (fm2.row h).lt⟩, fun h => ⟨fn2.low h, (fn2.row h).lt⟩, fun h => ?_, fun h => ?_, fun h => ⟨fn.low h, (fn.row h).lt⟩, small_none⟩
      · have := fu.low h; have := (fu.row h).lt; omega
      · have := fm.low h; have := (fm.row h).lt; omega)
    (by simp only [small_cases]; exact ⟨by omega, by omega, by omega, by omega, by omega, by omega, small_none⟩)
  have HSIX : Hid _ := hsix
  clear hsix
  go_wp2_with fail
  refine (apart_any _ _ _ _ _ _ HSIX.out).mono ?_
  rintro e w21 ⟨rfl, hexc⟩
  have hlo : ∀ k, k < wb.heap.size ∨ (w4.heap.size ≤ k ∧ k < w11.heap.size) → w21.heap[k]? = w20.heap[k]? := fun k hk => by
    rw [hexc.block k (by simp; omega) ?_]
    · exact Below.heap_alloc _ _ _ (by omega)
    · simp only [small_cases, pick6]
      refine ⟨fun h => ?_, fun h => ?_, fun h => ?_, fun h => ?_, fun h => ?_, fun h => ?_, small_none⟩
      · have := fu2.low h; omega
      · have := fm2.low h; omega
      · have := fn2.low h; omega
      · have := fu.low h; omega
      · have := fm.low h; have := (fm.row h).lt; omega
      · have := fn.low h; have := (fn.row h).lt; omega
  have zab := rb.below.size
  have z1b := eb.size
  have e21 : Below w1.heap.size w1 w21 := ⟨hexc.os.trans e20.os, hexc.tape.trans e20.tape, hexc.output.trans e20.output, by have := hexc.size; have := e20.size; simp at *; omega, fun k hk => (hlo k (by omega)).trans (e20.block k hk)⟩
  have dab20 : Below wa.heap.size wa w20 := ch rb.below (ch dbw dt20)
  have dbb20 : Below wb.heap.size wb w20 := ch dbw dt20
  have dff20 : Below wf.heap.size wf w20 := ch rt.below dt20
  have ma : Marks w21 ga n A := ra.marks ((hlo ga (by have := ra.hi; omega)).trans (dab20.block ga ra.hi))
  have mb : Marks w21 gb m B := rb.marks ((hlo gb (by have := rb.hi; omega)).trans (dbb20.block gb rb.hi))
  have ztf := rt.below.size
  have mf : Marks w21 gf nf F := rf.marks ((hlo gf (by have := rf.hi; have h := rf.lo; simp at h; omega)).trans (dff20.block gf rf.hi))
  have mt : Marks w21 gt nt T := rt.marks ((hlo gt (by have := rt.hi; have h := rf.lo; have := rf.hi; have := rt.lo; simp at h; omega)).trans (dt20.block gt rt.hi))
  have lga : w1.heap.size ≤ ga := by have h := ra.lo; simp at h; exact h
  have lgb : w1.heap.size ≤ gb := by have := rb.lo; have := ea.size; omega
  have nab : ga ≠ gb := by have := ra.hi; have := rb.lo; omega
  have rA := ra.room
  have rB := rb.room
  have rF := rf.room
  have rT := rt.room
  clear hexc hlo HSIX dt20 d1220 d1520 d1620 d320 d420 dab20 dbb20 dff20 fn fm fu fn2 fm2 fu2 dn dm du dt14 d1417 d1720 dbw d8t h11 h13 h14 vat vbt vft vtt ra rb rf rt ea eb ef et e11 e12 e13 e14 e15 e16 e17 e20 zb3 z34 z4t zt11 z1112 z1214 z1415 z1516 z1617 z1720 zab z1b ztf z49
  obtain ⟨c0, c1, c2, c3, c4, c5⟩ := C0.out _ e21
  clear c1 c2 c3 c4 c5
  go_wp2_with fail
  refine (whole_yes w21 _ _ _ _ _ _ _ _ (ma.view bdA.out (by omega)) (HA.out _ e21) rA ma.m0 ma.m1 ma.m2).mono ?_
  rintro e w22 ⟨rfl, h22⟩
  have e22 := ch e21 h22
  clear c0
  obtain ⟨c0, c1, c2, c3, c4, c5⟩ := C0.out _ e22
  clear c0 c2 c3 c4 c5
  go_wp2_with fail
  refine (whole_yes w22 _ _ _ _ _ _ _ _ ((mb.below h22).view bdB.out (by omega)) (HB.out _ e22) rB (mb.below h22).m0 (mb.below h22).m1 (mb.below h22).m2).mono ?_
  rintro e w23 ⟨rfl, h23⟩
  have e23 := ch e22 h23
  clear c1
  obtain ⟨c0, c1, c2, c3, c4, c5⟩ := C0.out _ e23
  clear c0 c1 c3 c4 c5
  have mf23 := mf.below (ch h22 h23)
  go_wp2_with fail
  refine (whole_yes w23 _ _ _ _ _ _ _ _ (mf23.view bdF.out (by omega)) (HF.out _ e23) rF mf23.m0 mf23.m1 mf23.m2).mono ?_
  rintro e w24 ⟨rfl, h24⟩
  have e24 := ch e23 h24
  clear c2
  obtain ⟨c0, c1, c2, c3, c4, c5⟩ := C0.out _ e24
  clear c0 c1 c2 c4 c5
  have mt24 := mt.below (ch (ch h22 h23) h24)
  go_wp2_with fail
  refine (whole_yes w24 _ _ _ _ _ _ _ _ (mt24.view bdT.out (by omega)) (HTO.out _ e24) rT mt24.m0 mt24.m1 mt24.m2).mono ?_
  rintro e w25 ⟨rfl, h25⟩
  have e25 := ch e24 h25
  have d25 := ch (ch (ch h22 h23) h24) h25
  have ma25 := ma.below d25
  have mb25 := mb.below d25
  clear c3 mf23 mt24 h22 h23 h24 h25 e21 e22 e23 e24 ma mb mf mt d25
  go_wp2_with fail
  refine (turn_any w25 ga n capA A ma25.cell ma25.fr bdA.out (by omega)).mono ?_
  rintro e w26 ⟨rfl, o26, ta⟩
  go_wp2_with fail
  refine (turn_any w26 gb m capB B (fun i hi => (o26.cell (p := ⟨gb, i, none⟩) (fun e => nab e.symm)).trans (mb25.cell i hi)) (fun i => (o26.frozen (p := ⟨gb, i, none⟩) (fun e => nab e.symm)).trans (mb25.fr i)) bdB.out (by omega)).mono ?_
  rintro e w27 ⟨rfl, o27, tb⟩
  have e27 : Below w1.heap.size w1 w27 := (e25.trans (o26.below lga)).trans (o27.below lgb)
  have va27 : View w27 (some ⟨ga, 0, none⟩) ga 0 n (fun i => tz (A i)) := view_row (fun i hi => (o27.cell (p := ⟨ga, i, none⟩) nab).trans (ta i hi)) (fun i _ => tz_bd _) (by omega)
  have vb27 : View w27 (some ⟨gb, 0, none⟩) gb 0 m (fun i => tz (B i)) := view_row tb (fun i _ => tz_bd _) (by omega)
  clear ma25 mb25 o26 o27 ta tb e25
  go_wp2_with fail
  refine (rbytes_all w27 _ _ _ m _ _ vb27 (by omega)).mono ?_
  rintro e w28 ⟨αp3, γp3, cp3, rfl, vp3, h28⟩
  have e28 := ch e27 h28
  go_wp2_with fail
  refine (bytes_all w28 _ _ _ m _ _ (vb27.below h28)).mono ?_
  rintro e w29 ⟨αm3, γm3, rfl, fm3⟩
  have e29 := ch e28 fm3.below
  have d29 := ch h28 fm3.below
  go_wp2_with fail
  refine (nibbles_all w29 _ _ _ n _ _ (va27.below d29) (by omega)).mono ?_
  rintro e w30 ⟨αn3, γn3, rfl, fn3⟩
  have e30 := ch e29 fn3.below
  have d30 := ch d29 fn3.below
  go_wp2_with fail
  refine (rnibbles_any w30 _ _ _ n _ _ (va27.below d30) (by omega)).mono ?_
  rintro e w31 ⟨αq3, γq3, cq3, rfl, vq3, h31⟩
  have e31 := ch e30 h31
  go_wp2_with fail
  refine (same_yes w31 _ _ _ _ _ _ _ _ _ _ _ _ ((fn3.view (by omega)).below h31) vq3 ⟨rfl, fun _ _ => rfl⟩).mono ?_
  rintro e w32 ⟨rfl, h32, -⟩
  have e32 := ch e31 h32
  have lbk : bk m (fun i => tz (B i)) ≤ 281474976710656 := by have := bk_le m (fun i => tz (B i)); omega
  go_wp2_with fail
  refine (same_yes w32 _ _ _ _ _ _ _ _ _ _ _ _ ((fm3.view lbk).below (ch (ch fn3.below h31) h32)) (vp3.below (ch (ch (ch fm3.below fn3.below) h31) h32)) ⟨rfl, fun _ _ => rfl⟩).mono ?_
  rintro e w33 ⟨rfl, h33, -⟩
  have e33 := ch e32 h33
  have d33 := ch (ch (ch d30 h31) h32) h33
  have va33 := va27.below d33
  have vb33 := vb27.below d33
  clear vp3 h28 fm3 e28 e29 fn3 e30 d30 d29 vq3 h31 e31 h32 e32 lbk h33 d33 va27 vb27 e27
  go_wp2_with fail
  refine (common_any w33 _ _ _ _ n _ _ _ m _ _ _ va33 vb33).mono ?_
  rintro e w34 ⟨rfl, hq34⟩
  have h34 := (below_of_drew hq34).1
  clear hq34
  go_wp2_with fail
  refine (rcommon_any w34 _ _ _ _ n _ _ _ m _ _ _ (va33.below h34) (vb33.below h34)).mono ?_
  rintro e w35 ⟨rfl, hq35⟩
  have h35 := ch h34 (below_of_drew hq35).1
  clear hq35
  go_wp2_with fail
  refine (compare_any w35 _ _ _ _ n _ _ _ m _ _ _ (va33.below h35) (vb33.below h35)).mono ?_
  rintro e w36 ⟨rfl, hq36⟩
  have h36 := ch h35 (below_of_drew hq36).1
  clear hq36
  go_wp2_with fail
  refine (rcompare_any w36 _ _ _ _ n _ _ _ m _ _ _ (va33.below h36) (vb33.below h36)).mono ?_
  rintro e w37 ⟨rfl, hq37⟩
  have h37 := ch h36 (below_of_drew hq37).1
  clear hq37
  go_wp2_with fail
  refine (hex_any w37 _ _ _ n _ _ (va33.below h37) (by omega) (HT.out _ (ch e33 h37))).mono ?_
  rintro e w38 ⟨rfl, hh38⟩
  have h38 := ch h37 hh38
  go_wp2_with fail
  refine (rhex_any w38 _ _ _ n _ _ (va33.below h38) (by omega)).mono ?_
  rintro e w39 ⟨rfl, hq39⟩
  have e39 := ch (ch e33 h38) (below_of_drew hq39).1
  clear hq39 h34 h35 h36 h37 hh38 h38 va33 vb33 e33
  go_wp2_with fail
  refine (fixed_any w39 (HT.out _ e39)).mono ?_
  rintro e w40 ⟨rfl, h40⟩
  have e40 := ch e39 h40
  clear h40 e39
  go_wp2
  go_ret
  exact ⟨rfl, HUP.out _ e40⟩

end Go.Proofs.YtglnjacaeefddaaDoor
