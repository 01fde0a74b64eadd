/-
  RlpDecodes: the law.
-/
import Derived.Test.YtlpmcdnhnhgmpaaD15
namespace Go.Proofs.Ytlpmcdnhnhgmpaa
open Go.RowKit

set_option maxRecDepth 100000 in
set_option maxHeartbeats 12800000 in
theorem decodes_any (w : World) (a : Option Addr) (b off c : Nat) (s : List Nat) (hv : Vw w a b off s) (hc : s.length ≤ c) (hnil : a = none → c = 0) (hl : s.length ≤ 140737488351232) :
    Calls Try.prog 6 #[.slice a s.length c] w fun e w' => e = .returned (.bool true) ∧ Below w.heap.size w w' := by
  have hok := (vw_ok hv).2
  have HS0 : Hid (∀ x ∈ s, x < 256) := hok
  have HND : Hid (nodes (decX s) ≤ 1048577) := nodes_dec hok
  have HV : Hid (∀ w', Below w.heap.size w w' → Vw w' a b off s) := fun w' k => hv.below k
  obtain ⟨u1, eu1⟩ : ∃ u, u = sp1 s := ⟨_, rfl⟩
  obtain ⟨u2, eu2⟩ : ∃ u, u = sp2 s := ⟨_, rfl⟩
  obtain ⟨n1, en1⟩ : ∃ n, n = u1.length := ⟨_, rfl⟩
  obtain ⟨n2, en2⟩ : ∃ n, n = u2.length := ⟨_, rfl⟩
  have hn1 : n1 ≤ 140737488351232 := by rw [en1, eu1]; have := (sp_len s).1; omega
  have hn2 : n2 ≤ 140737488351232 := by rw [en2, eu2]; have := (sp_len s).2; omega
  obtain ⟨SE, eSE⟩ : ∃ x, x = spE s := ⟨_, rfl⟩
  obtain ⟨X, eX⟩ : ∃ x, x = decX s := ⟨_, rfl⟩
  obtain ⟨l, el⟩ : ∃ x, x = X.l := ⟨_, rfl⟩
  have HEL : Hid (l = X.l) := el
  obtain ⟨PL, ePL⟩ : ∃ x, x = decP s := ⟨_, rfl⟩
  obtain ⟨ER, eER⟩ : ∃ x, x = decE s := ⟨_, rfl⟩
  have K1 := rdecode_any w a b off c s hv hc
  have K2 := fun w' (k : Below w.heap.size w w') => rsplit_any w' a b off c s (HV.out w' k) hc
  have K4 := fun w' gI cI (hv' : Vw w' (some ⟨gI, 0, none⟩) gI 0 s) (hc' : s.length ≤ cI) => decode_any w' (some ⟨gI, 0, none⟩) gI 0 cI s hv' hc' (by omega)
  have K5 := fun w' gI cI (hv' : Vw w' (some ⟨gI, 0, none⟩) gI 0 s) (hc' : s.length ≤ cI) => split_any w' (some ⟨gI, 0, none⟩) gI 0 cI s hv' hc' hl
  unfold RDec at K1
  unfold RSpl at K2
  unfold DecPost at K4
  rw [← eX, ← ePL, ← eER, ← el] at K1 K4
  rw [← eSE, ← eu1, ← eu2] at K2 K5
  obtain ⟨n, en⟩ : ∃ n, n = s.length := ⟨_, rfl⟩
  have HN : Hid (n = s.length ∧ n1 = u1.length ∧ n2 = u2.length) := ⟨en, en1, en2⟩
  rw [← eX] at HND
  rw [← en] at K1 K2 K4 K5 hl hc ⊢
  have HNIL : Hid (a = none → c = 0) := hnil
  clear hv hok hnil eu1 eu2 en1 en2 eSE eX el ePL eER en
  go_enter Try.func6, Try.ntmps6
  go_wp2_with fail
  refine K1.mono ?_
  rintro e w1 ⟨vb1, vi1, rfl, o1, b1⟩
  obtain ⟨c1, c2, c3, c4, c5, c6, rfl, rfl⟩ := o1.lies.form
  obtain ⟨wA, eA⟩ : ∃ wA, wA = w1.alloc (.cells #[.bool l, .slice c1 c2 c3, .slice c4 c5 c6] 34) := ⟨_, rfl⟩
  have bA : Below w1.heap.size w1 wA := by rw [eA]; exact below_alloc _ _
  have yA : Bx wA w1.heap.size 34 (.bool l) (.slice c1 c2 c3) (.slice c4 c5 c6) := by rw [eA]; exact heap_alloc_new _ _
  have HA : Hid (wA = w1.alloc (.cells #[.bool l, .slice c1 c2 c3, .slice c4 c5 c6] 34) ∧ Below w.heap.size w wA ∧ Lies Vb wA X (.slice c1 c2 c3) (.slice c4 c5 c6) ∧ Bx wA w1.heap.size 34 (.bool l) (.slice c1 c2 c3) (.slice c4 c5 c6)) := ⟨eA, ch b1 bA, o1.lies.keep bA, yA⟩
  clear K1 o1 b1 eA bA yA
  go_wp2_with fail
  rw [← HA.out.1]
  refine (K2 _ HA.out.2.1).mono ?_
  rintro e w2 ⟨v1, v2, rfl, s1, s2, b2⟩
  obtain ⟨av1, cv1, ev⟩ := s1.slice
  rw [← HN.out.2.1] at ev
  subst ev
  obtain ⟨av2, cv2, ev⟩ := s2.slice
  rw [← HN.out.2.2] at ev
  subst ev
  have H2 : Hid (Below wA.heap.size wA w2 ∧ Str w2 (fun i => wA.heap.size ≤ i) (.slice av1 n1 cv1) u1 ∧ Str w2 (fun i => wA.heap.size ≤ i) (.slice av2 n2 cv2) u2) := ⟨b2, s1, s2⟩
  clear K2 s1 s2 b2
  -- what goes in
  have HO0 : Hid ((w2.alloc (.cells #[] 5)).ownsRow w2.heap.size 5 1 (.slice (some ⟨w2.heap.size, 0, none⟩) 0 0) 0 []) := own_lit0 w2 _ (Nat.le_refl _)
  have HV0 : Hid (View (w2.alloc (.cells #[] 5)) a b off n (fun i => ((gd s i : Nat) : Int))) := by
    rw [HN.out.1]
    exact HV.out _ (ch HA.out.2.1 (ch H2.out.1 (below_alloc _ _)))
  go_wp2_with (refine wpList_append_bytes (by rfl) (.tmp 37) (.tmp 38) (by rfl) w2.heap.size _ 0 [] (by rfl) HO0.out a b off n c _ (by rfl) HV0.out HNIL.out (by omega) (by simp) ?_)
  intro v3 w3 own3 gr3 nn3
  have b3 : Below w2.heap.size w2 w3 := (below_alloc _ _).trans (grown_below gr3 HO0.out (Nat.le_refl _) (by simp))
  have own3' : w3.ownsRow w2.heap.size 5 1 v3 n (bv s) := by rw [← vals_bv s, ← HN.out.1]; simpa using own3
  have HO1 : Hid ((w3.alloc (.cells #[.int .u8 1, .int .u8 2, .int .u8 3] 5)).ownsRow w2.heap.size 5 1 v3 n (bv s) ∧ Below w2.heap.size w2 w3) := ⟨own3'.alloc _, b3⟩
  have HV1 : Hid (View (w3.alloc (.cells #[.int .u8 1, .int .u8 2, .int .u8 3] 5)) (some ⟨w3.heap.size, 0, none⟩) w3.heap.size 0 3 (fun i => ((gd [1, 2, 3] i : Nat) : Int))) := view123 w3
  clear own3 own3' gr3 nn3 b3
  go_wp2_with (refine wpList_append_bytes (by rfl) (.tmp 39) (.tmp 40) (by rfl) w2.heap.size v3 n (bv s) (by rfl) HO1.out.1 (some ⟨w3.heap.size, 0, none⟩) w3.heap.size 0 3 3 _ (by rfl) HV1.out (fun h => by cases h) (by omega) (by have := HO1.out.2.size; simp; omega) ?_)
  intro v4 w4 own4 gr4 nn4
  have b4 : Below w2.heap.size w2 w4 := (ch HO1.out.2 (below_alloc _ _)).trans (grown_below gr4 HO1.out.1 (Nat.le_refl _) (by have := HO1.out.2.size; simp; omega))
  have own4' : w4.ownsRow w2.heap.size 5 1 v4 (n + 3) (bv (s ++ [1, 2, 3])) := by rw [bv_app, ← vals_bv [1, 2, 3]]; exact own4
  obtain ⟨gI, cI, eI, hgI, -⟩ := own4'.form (by omega)
  subst eI
  have hcI : n + 3 ≤ cI := by
    rcases own4'.2 with ⟨e, _⟩ | ⟨g', cap', cur', e, _, _, h1, _⟩
    · cases e
    · injection e with _ _ e
      omega
  have lI : (s ++ [1, 2, 3]).length = n + 3 := by rw [List.length_append, ← HN.out.1]; rfl
  have hokI : ∀ x ∈ s ++ [1, 2, 3], x < 256 := fun x hx => by
    rcases List.mem_append.1 hx with q | q
    · exact HS0.out x q
    · simp at q; omega
  have HK4 : Hid (Below w2.heap.size w2 w4) := b4
  have HI4 : Hid (Below wA.heap.size wA w4 ∧ Str w4 (fun i => w2.heap.size ≤ i) (.slice (some ⟨gI, 0, none⟩) (n + 3) cI) (s ++ [1, 2, 3]) ∧ gI < w4.heap.size ∧ (s ++ [1, 2, 3]).length = n + 3) := ⟨ch H2.out.1 b4, ⟨by rw [lI]; exact own_base own4', fun g hg => (own4'.lt g hg).1, ⟨by rw [lI]; omega, hokI⟩⟩, (own4'.lt gI rfl).2, lI⟩
  have HIV : Hid (∀ w', Below w4.heap.size w4 w' → Vw w' (some ⟨gI, 0, none⟩) gI 0 s) := fun w' k => by
    have q := HI4.out.2.1
    rw [← lI] at q
    obtain ⟨a', g', c', e, -, v, -⟩ := (str_pre (q.below k)).view
    injection e with e1 _ e3
    subst e1
    by_cases h0 : 0 < s.length
    · have := v.at_ h0
      have e := Option.some.inj this
      injection e with e
      subst e
      exact v
    · exact ⟨fun h => absurd h h0, fun i hi => by omega, fun i hi => by omega, by omega⟩
  have j1 := slice_upto (some ⟨gI, 0, none⟩) (n + 3) cI n (by omega)
  clear own4 own4' gr4 nn4 b4 hgI lI hokI
  go_wp2_with fail
  refine (K4 w4 gI cI (HIV.out w4 (Below.refl _ _)) (by omega)).mono ?_
  rintro e w5 ⟨vb5, vi5, rfl, o5, b5⟩
  obtain ⟨d1, d2, d3, d4, d5, d6, rfl, rfl⟩ := o5.lies.form
  obtain ⟨wB, eB⟩ : ∃ wB, wB = w5.alloc (.cells #[.bool l, .slice d1 d2 d3, .slice d4 d5 d6] 25) := ⟨_, rfl⟩
  have bB : Below w5.heap.size w5 wB := by rw [eB]; exact below_alloc _ _
  have yB : Bx wB w5.heap.size 25 (.bool l) (.slice d1 d2 d3) (.slice d4 d5 d6) := by rw [eB]; exact heap_alloc_new _ _
  have HB : Hid (wB = w5.alloc (.cells #[.bool l, .slice d1 d2 d3, .slice d4 d5 d6] 25) ∧ Below w4.heap.size w4 wB ∧ Own wB w4.heap.size w5.heap.size X (.slice d1 d2 d3) (.slice d4 d5 d6) ∧ Bx wB w5.heap.size 25 (.bool l) (.slice d1 d2 d3) (.slice d4 d5 d6) ∧ wB.heap.size = w5.heap.size + 1 ∧ w4.heap.size ≤ w5.heap.size) := ⟨eB, ch b5 bB, o5.keep bB (Nat.le_refl _), yB, by rw [eB]; simp, b5.size⟩
  clear o5 b5 eB bB yB
  go_wp2_with fail
  rw [← HB.out.1]
  refine (K5 wB gI cI (HIV.out wB HB.out.2.1) (by omega)).mono ?_
  rintro e w6 ⟨v61, v62, rfl, T6⟩
  obtain ⟨av61, cv61, ev⟩ := T6.fst.slice
  rw [← HN.out.2.1] at ev
  subst ev
  obtain ⟨av62, cv62, ev⟩ := T6.snd.slice
  rw [← HN.out.2.2] at ev
  subst ev
  have H6 : Hid (Two wB w6 (.slice av61 n1 cv61) (.slice av62 n2 cv62) u1 u2 ∧ Below w4.heap.size w4 w6) := ⟨T6, ch HB.out.2.1 T6.below⟩
  clear T6
  obtain ⟨S1, eS1⟩ : ∃ S1, S1 = str n1 (fun i => ((gd u1 i : Nat) : Int)) := ⟨_, rfl⟩
  obtain ⟨S2, eS2⟩ : ∃ S2, S2 = str n2 (fun i => ((gd u2 i : Nat) : Int)) := ⟨_, rfl⟩
  have HES : Hid (S1 = str n1 (fun i => ((gd u1 i : Nat) : Int)) ∧ S2 = str n2 (fun i => ((gd u2 i : Nat) : Int))) := ⟨eS1, eS2⟩
  have HS : Hid (∀ w', Below w6.heap.size w6 w' → ((convert 22 9 (.slice av61 n1 cv61)).run Try.prog w' = .ok (.string S1) w' ∧ (convert 22 9 (.slice av62 n2 cv62)).run Try.prog w' = .ok (.string S2) w' ∧ (convert 22 9 (.slice av1 n1 cv1)).run Try.prog w' = .ok (.string S1) w' ∧ (convert 22 9 (.slice av2 n2 cv2)).run Try.prog w' = .ok (.string S2) w')
      ∧ (w'.cell? ⟨w5.heap.size, 0, none⟩ = some (.bool l) ∧ w'.cell? ⟨w5.heap.size, 1, none⟩ = some (.slice d1 d2 d3) ∧ w'.cell? ⟨w5.heap.size, 2, none⟩ = some (.slice d4 d5 d6))
      ∧ (w'.cell? ⟨w1.heap.size, 0, none⟩ = some (.bool l) ∧ w'.cell? ⟨w1.heap.size, 1, none⟩ = some (.slice c1 c2 c3) ∧ w'.cell? ⟨w1.heap.size, 2, none⟩ = some (.slice c4 c5 c6))
      ∧ (Own w' w4.heap.size w5.heap.size X (.slice d1 d2 d3) (.slice d4 d5 d6) ∧ Lies Vb w' X (.slice c1 c2 c3) (.slice c4 c5 c6))) := fun w' k => by
    have kB := ch H6.out.1.below k
    have kA := ch HI4.out.1 (ch HB.out.2.1 kB)
    have q5 := (HB.out.2.2.2.1.keep (kB.block _ HB.out.2.2.2.1.lt)).cells
    have q1 := (HA.out.2.2.2.keep (kA.block _ HA.out.2.2.2.lt)).cells
    have kk2 : Below w2.heap.size w2 w' := ch HK4.out (ch HB.out.2.1 kB)
    rw [HES.out.1, HES.out.2]
    exact ⟨⟨conv_str HN.out.2.1 (H6.out.1.fst.below k), conv_str HN.out.2.2 (H6.out.1.snd.below k), conv_str HN.out.2.1 (H2.out.2.1.below kk2), conv_str HN.out.2.2 (H2.out.2.2.below kk2)⟩, ⟨q5.1, q5.2.1, q5.2.2.1⟩, ⟨q1.1, q1.2.1, q1.2.2.1⟩, HB.out.2.2.1.keep kB (by have := HB.out.2.2.2.2.1; omega), HA.out.2.2.1.keep kA⟩
  clear eS1 eS2
  go_wp2_with fail
  refine wp_region_held_drew (S := fun w' => Below w6.heap.size w6 w') (by kernel_rfl) ((Below.drew (Below.refl _ _))) ?_
  intro hS
  change wpAnyH _ _ _ _ _ 34 _ _ _
  generalize w6.drew = wd at hS ⊢
  refine wpAnyH_take (i := 0) (v := (.agg #[.bool l, .slice d1 d2 d3, .slice d4 d5 d6])) (by simp only [List.getElem?_toArray, List.getElem?_cons_zero]; rfl) (by kernel_rfl) (by kernel_rfl) (by kernel_rfl) (by exact fun _ _ _ h => h) (y_load25 (by kernel_rfl) _ rfl _ rfl _ _ _ (fun w' hs => (HS.out w' hs).2.1)) hS ?_
  try simp only [Act.put, List.setIfInBounds_toArray, List.set_cons_zero, List.set_cons_succ]
  refine wpAnyH_take (i := 2) (v := (.agg #[.bool l, .slice c1 c2 c3, .slice c4 c5 c6])) (by simp only [List.getElem?_toArray, List.getElem?_cons_zero, List.getElem?_cons_succ]; rfl) (by kernel_rfl) (by kernel_rfl) (by kernel_rfl) (by exact fun _ _ _ h => h) (y_load34 (by kernel_rfl) _ rfl _ rfl _ _ _ (fun w' hs => (HS.out w' hs).2.2.1)) hS ?_
  try simp only [Act.put, List.setIfInBounds_toArray, List.set_cons_zero, List.set_cons_succ]
  refine wpAnyH_ready (rs := [1]) (by kernel_rfl) (by simp) ?_
  refine AllReadyH.cons (by simp only [List.getElem?_toArray, List.getElem?_cons_zero, List.getElem?_cons_succ]; rfl) (fun K hK => ?_) AllReadyH.nil
  refine r_call1 11 _ _ rfl (by kernel_rfl) _ rfl eBack ?_
  refine (back_any' X wd _ _ l HEL.out ((HS.out _ hS).2.2.2.1.lies)).mono ?_
  rintro e w7 ⟨vbw7, viw7, rfl, ow7, bbw7⟩
  have B7 : Below w6.heap.size w6 w7 := ch hS bbw7
  refine ⟨_, rfl, ?_⟩
  refine hK.out _ _ B7 (fun hS => ?_)
  clear hK K
  try simp only [Act.put, List.setIfInBounds_toArray, List.set_cons_zero, List.set_cons_succ]
  refine wpAnyH_ready (rs := [3]) (by kernel_rfl) (by simp) ?_
  refine AllReadyH.cons (by simp only [List.getElem?_toArray, List.getElem?_cons_zero, List.getElem?_cons_succ]; rfl) (fun K hK => ?_) AllReadyH.nil
  refine r_call2 10 _ _ _ rfl (by kernel_rfl) _ _ rfl rfl eSame ?_
  refine (same_any' X w7 _ _ _ _ l HEL.out ow7.lies ((HS.out _ B7).2.2.2.2)).mono ?_
  rintro e w8 ⟨rfl, bxw7⟩
  have B8 : Below w6.heap.size w6 w8 := ch B7 bxw7
  refine ⟨_, rfl, ?_⟩
  refine hK.out _ _ B8 (fun hS => ?_)
  clear ow7 bbw7 bxw7
  clear hK K
  try simp only [Act.put, List.setIfInBounds_toArray, List.set_cons_zero, List.set_cons_succ]
  refine wpAnyH_take (i := 4) (v := (.bool false)) (by simp only [List.getElem?_toArray, List.getElem?_cons_zero, List.getElem?_cons_succ]; rfl) (by kernel_rfl) (by kernel_rfl) (by kernel_rfl) (by exact fun _ _ _ h => h) (y_notT (by kernel_rfl) _ rfl rfl) hS ?_
  try simp only [Act.put, List.setIfInBounds_toArray, List.set_cons_zero, List.set_cons_succ]
  refine wpAnyH_take (i := 5) (v := (.bool false)) (by simp only [List.getElem?_toArray, List.getElem?_cons_zero, List.getElem?_cons_succ]; rfl) (by kernel_rfl) (by kernel_rfl) (by kernel_rfl) (by exact fun _ _ _ h => h) (y_move (by kernel_rfl) _ rfl _ rfl) hS ?_
  try simp only [Act.put, List.setIfInBounds_toArray, List.set_cons_zero, List.set_cons_succ]
  refine wpAnyH_take (i := 6) (v := (.int .i64 ((PL : Nat) : Int))) (by simp only [List.getElem?_toArray, List.getElem?_cons_zero, List.getElem?_cons_succ]; rfl) (by kernel_rfl) (by kernel_rfl) (by kernel_rfl) (by exact fun _ _ _ h => h) (y_move (by kernel_rfl) _ rfl _ rfl) hS ?_
  try simp only [Act.put, List.setIfInBounds_toArray, List.set_cons_zero, List.set_cons_succ]
  refine wpAnyH_take (i := 7) (v := (.int .i64 ((PL : Nat) : Int))) (by simp only [List.getElem?_toArray, List.getElem?_cons_zero, List.getElem?_cons_succ]; rfl) (by kernel_rfl) (by kernel_rfl) (by kernel_rfl) (by exact fun _ _ _ h => h) (y_move (by kernel_rfl) _ rfl _ rfl) hS ?_
  try simp only [Act.put, List.setIfInBounds_toArray, List.set_cons_zero, List.set_cons_succ]
  refine wpAnyH_take (i := 8) (v := (.bool false)) (by simp only [List.getElem?_toArray, List.getElem?_cons_zero, List.getElem?_cons_succ]; rfl) (by kernel_rfl) (by kernel_rfl) (by kernel_rfl) (by exact fun _ _ _ h => h) (y_neqI (by kernel_rfl) _ _ rfl _ rfl rfl) hS ?_
  try simp only [Act.put, List.setIfInBounds_toArray, List.set_cons_zero, List.set_cons_succ]
  refine wpAnyH_take (i := 9) (v := (.bool false)) (by simp only [List.getElem?_toArray, List.getElem?_cons_zero, List.getElem?_cons_succ]; rfl) (by kernel_rfl) (by kernel_rfl) (by kernel_rfl) (by exact fun _ _ _ h => h) (y_pick_f (by kernel_rfl) _ _ _ rfl _ rfl rfl) hS ?_
  try simp only [Act.put, List.setIfInBounds_toArray, List.set_cons_zero, List.set_cons_succ]
  refine wpAnyH_take (i := 10) (v := (.bool false)) (by simp only [List.getElem?_toArray, List.getElem?_cons_zero, List.getElem?_cons_succ]; rfl) (by kernel_rfl) (by kernel_rfl) (by kernel_rfl) (by exact fun _ _ _ h => h) (y_move (by kernel_rfl) _ rfl _ rfl) hS ?_
  try simp only [Act.put, List.setIfInBounds_toArray, List.set_cons_zero, List.set_cons_succ]
  refine wpAnyH_take (i := 11) (v := (.int .i64 ((ER : Nat) : Int))) (by simp only [List.getElem?_toArray, List.getElem?_cons_zero, List.getElem?_cons_succ]; rfl) (by kernel_rfl) (by kernel_rfl) (by kernel_rfl) (by exact fun _ _ _ h => h) (y_move (by kernel_rfl) _ rfl _ rfl) hS ?_
  try simp only [Act.put, List.setIfInBounds_toArray, List.set_cons_zero, List.set_cons_succ]
  refine wpAnyH_take (i := 12) (v := (.int .i64 ((ER : Nat) : Int))) (by simp only [List.getElem?_toArray, List.getElem?_cons_zero, List.getElem?_cons_succ]; rfl) (by kernel_rfl) (by kernel_rfl) (by kernel_rfl) (by exact fun _ _ _ h => h) (y_move (by kernel_rfl) _ rfl _ rfl) hS ?_
  try simp only [Act.put, List.setIfInBounds_toArray, List.set_cons_zero, List.set_cons_succ]
  refine wpAnyH_take (i := 13) (v := (.bool false)) (by simp only [List.getElem?_toArray, List.getElem?_cons_zero, List.getElem?_cons_succ]; rfl) (by kernel_rfl) (by kernel_rfl) (by kernel_rfl) (by exact fun _ _ _ h => h) (y_neqI (by kernel_rfl) _ _ rfl _ rfl rfl) hS ?_
  try simp only [Act.put, List.setIfInBounds_toArray, List.set_cons_zero, List.set_cons_succ]
  refine wpAnyH_take (i := 14) (v := (.bool false)) (by simp only [List.getElem?_toArray, List.getElem?_cons_zero, List.getElem?_cons_succ]; rfl) (by kernel_rfl) (by kernel_rfl) (by kernel_rfl) (by exact fun _ _ _ h => h) (y_pick_f (by kernel_rfl) _ _ _ rfl _ rfl rfl) hS ?_
  try simp only [Act.put, List.setIfInBounds_toArray, List.set_cons_zero, List.set_cons_succ]
  refine wpAnyH_take (i := 15) (v := (.bool false)) (by simp only [List.getElem?_toArray, List.getElem?_cons_zero, List.getElem?_cons_succ]; rfl) (by kernel_rfl) (by kernel_rfl) (by kernel_rfl) (by exact fun _ _ _ h => h) (y_move (by kernel_rfl) _ rfl _ rfl) hS ?_
  try simp only [Act.put, List.setIfInBounds_toArray, List.set_cons_zero, List.set_cons_succ]
  refine wpAnyH_take (i := 16) (v := (.slice av61 n1 cv61)) (by simp only [List.getElem?_toArray, List.getElem?_cons_zero, List.getElem?_cons_succ]; rfl) (by kernel_rfl) (by kernel_rfl) (by kernel_rfl) (by exact fun _ _ _ h => h) (y_move (by kernel_rfl) _ rfl _ rfl) hS ?_
  try simp only [Act.put, List.setIfInBounds_toArray, List.set_cons_zero, List.set_cons_succ]
  refine wpAnyH_take (i := 17) (v := (.string S1)) (by simp only [List.getElem?_toArray, List.getElem?_cons_zero, List.getElem?_cons_succ]; rfl) (by kernel_rfl) (by kernel_rfl) (by kernel_rfl) (by exact fun _ _ _ h => h) (y_conv (by kernel_rfl) _ rfl (.slice av61 n1 cv61) (.string S1) rfl (fun w' hs => (HS.out w' hs).1.1)) hS ?_
  try simp only [Act.put, List.setIfInBounds_toArray, List.set_cons_zero, List.set_cons_succ]
  refine wpAnyH_take (i := 18) (v := (.slice av1 n1 cv1)) (by simp only [List.getElem?_toArray, List.getElem?_cons_zero, List.getElem?_cons_succ]; rfl) (by kernel_rfl) (by kernel_rfl) (by kernel_rfl) (by exact fun _ _ _ h => h) (y_move (by kernel_rfl) _ rfl _ rfl) hS ?_
  try simp only [Act.put, List.setIfInBounds_toArray, List.set_cons_zero, List.set_cons_succ]
  refine wpAnyH_take (i := 19) (v := (.string S1)) (by simp only [List.getElem?_toArray, List.getElem?_cons_zero, List.getElem?_cons_succ]; rfl) (by kernel_rfl) (by kernel_rfl) (by kernel_rfl) (by exact fun _ _ _ h => h) (y_conv (by kernel_rfl) _ rfl (.slice av1 n1 cv1) (.string S1) rfl (fun w' hs => (HS.out w' hs).1.2.2.1)) hS ?_
  try simp only [Act.put, List.setIfInBounds_toArray, List.set_cons_zero, List.set_cons_succ]
  refine wpAnyH_take (i := 20) (v := (.bool false)) (by simp only [List.getElem?_toArray, List.getElem?_cons_zero, List.getElem?_cons_succ]; rfl) (by kernel_rfl) (by kernel_rfl) (by kernel_rfl) (by exact fun _ _ _ h => h) (y_neqS (by kernel_rfl) _ _ rfl _ rfl rfl) hS ?_
  try simp only [Act.put, List.setIfInBounds_toArray, List.set_cons_zero, List.set_cons_succ]
  refine wpAnyH_take (i := 21) (v := (.bool false)) (by simp only [List.getElem?_toArray, List.getElem?_cons_zero, List.getElem?_cons_succ]; rfl) (by kernel_rfl) (by kernel_rfl) (by kernel_rfl) (by exact fun _ _ _ h => h) (y_pick_f (by kernel_rfl) _ _ _ rfl _ rfl rfl) hS ?_
  try simp only [Act.put, List.setIfInBounds_toArray, List.set_cons_zero, List.set_cons_succ]
  refine wpAnyH_take (i := 22) (v := (.bool false)) (by simp only [List.getElem?_toArray, List.getElem?_cons_zero, List.getElem?_cons_succ]; rfl) (by kernel_rfl) (by kernel_rfl) (by kernel_rfl) (by exact fun _ _ _ h => h) (y_move (by kernel_rfl) _ rfl _ rfl) hS ?_
  try simp only [Act.put, List.setIfInBounds_toArray, List.set_cons_zero, List.set_cons_succ]
  refine wpAnyH_take (i := 23) (v := (.slice av62 n2 cv62)) (by simp only [List.getElem?_toArray, List.getElem?_cons_zero, List.getElem?_cons_succ]; rfl) (by kernel_rfl) (by kernel_rfl) (by kernel_rfl) (by exact fun _ _ _ h => h) (y_move (by kernel_rfl) _ rfl _ rfl) hS ?_
  try simp only [Act.put, List.setIfInBounds_toArray, List.set_cons_zero, List.set_cons_succ]
  refine wpAnyH_take (i := 24) (v := (.string S2)) (by simp only [List.getElem?_toArray, List.getElem?_cons_zero, List.getElem?_cons_succ]; rfl) (by kernel_rfl) (by kernel_rfl) (by kernel_rfl) (by exact fun _ _ _ h => h) (y_conv (by kernel_rfl) _ rfl (.slice av62 n2 cv62) (.string S2) rfl (fun w' hs => (HS.out w' hs).1.2.1)) hS ?_
  try simp only [Act.put, List.setIfInBounds_toArray, List.set_cons_zero, List.set_cons_succ]
  refine wpAnyH_take (i := 25) (v := (.slice av2 n2 cv2)) (by simp only [List.getElem?_toArray, List.getElem?_cons_zero, List.getElem?_cons_succ]; rfl) (by kernel_rfl) (by kernel_rfl) (by kernel_rfl) (by exact fun _ _ _ h => h) (y_move (by kernel_rfl) _ rfl _ rfl) hS ?_
  try simp only [Act.put, List.setIfInBounds_toArray, List.set_cons_zero, List.set_cons_succ]
  refine wpAnyH_take (i := 26) (v := (.string S2)) (by simp only [List.getElem?_toArray, List.getElem?_cons_zero, List.getElem?_cons_succ]; rfl) (by kernel_rfl) (by kernel_rfl) (by kernel_rfl) (by exact fun _ _ _ h => h) (y_conv (by kernel_rfl) _ rfl (.slice av2 n2 cv2) (.string S2) rfl (fun w' hs => (HS.out w' hs).1.2.2.2)) hS ?_
  try simp only [Act.put, List.setIfInBounds_toArray, List.set_cons_zero, List.set_cons_succ]
  refine wpAnyH_take (i := 27) (v := (.bool false)) (by simp only [List.getElem?_toArray, List.getElem?_cons_zero, List.getElem?_cons_succ]; rfl) (by kernel_rfl) (by kernel_rfl) (by kernel_rfl) (by exact fun _ _ _ h => h) (y_neqS (by kernel_rfl) _ _ rfl _ rfl rfl) hS ?_
  try simp only [Act.put, List.setIfInBounds_toArray, List.set_cons_zero, List.set_cons_succ]
  refine wpAnyH_take (i := 28) (v := (.bool false)) (by simp only [List.getElem?_toArray, List.getElem?_cons_zero, List.getElem?_cons_succ]; rfl) (by kernel_rfl) (by kernel_rfl) (by kernel_rfl) (by exact fun _ _ _ h => h) (y_pick_f (by kernel_rfl) _ _ _ rfl _ rfl rfl) hS ?_
  try simp only [Act.put, List.setIfInBounds_toArray, List.set_cons_zero, List.set_cons_succ]
  refine wpAnyH_take (i := 29) (v := (.bool false)) (by simp only [List.getElem?_toArray, List.getElem?_cons_zero, List.getElem?_cons_succ]; rfl) (by kernel_rfl) (by kernel_rfl) (by kernel_rfl) (by exact fun _ _ _ h => h) (y_move (by kernel_rfl) _ rfl _ rfl) hS ?_
  try simp only [Act.put, List.setIfInBounds_toArray, List.set_cons_zero, List.set_cons_succ]
  refine wpAnyH_take (i := 30) (v := (.int .i64 ((SE : Nat) : Int))) (by simp only [List.getElem?_toArray, List.getElem?_cons_zero, List.getElem?_cons_succ]; rfl) (by kernel_rfl) (by kernel_rfl) (by kernel_rfl) (by exact fun _ _ _ h => h) (y_move (by kernel_rfl) _ rfl _ rfl) hS ?_
  try simp only [Act.put, List.setIfInBounds_toArray, List.set_cons_zero, List.set_cons_succ]
  refine wpAnyH_take (i := 31) (v := (.int .i64 ((SE : Nat) : Int))) (by simp only [List.getElem?_toArray, List.getElem?_cons_zero, List.getElem?_cons_succ]; rfl) (by kernel_rfl) (by kernel_rfl) (by kernel_rfl) (by exact fun _ _ _ h => h) (y_move (by kernel_rfl) _ rfl _ rfl) hS ?_
  try simp only [Act.put, List.setIfInBounds_toArray, List.set_cons_zero, List.set_cons_succ]
  refine wpAnyH_take (i := 32) (v := (.bool false)) (by simp only [List.getElem?_toArray, List.getElem?_cons_zero, List.getElem?_cons_succ]; rfl) (by kernel_rfl) (by kernel_rfl) (by kernel_rfl) (by exact fun _ _ _ h => h) (y_neqI (by kernel_rfl) _ _ rfl _ rfl rfl) hS ?_
  try simp only [Act.put, List.setIfInBounds_toArray, List.set_cons_zero, List.set_cons_succ]
  refine wpAnyH_take (i := 33) (v := (.bool false)) (by simp only [List.getElem?_toArray, List.getElem?_cons_zero, List.getElem?_cons_succ]; rfl) (by kernel_rfl) (by kernel_rfl) (by kernel_rfl) (by exact fun _ _ _ h => h) (y_pick_f (by kernel_rfl) _ _ _ rfl _ rfl rfl) hS ?_
  try simp only [Act.put, List.setIfInBounds_toArray, List.set_cons_zero, List.set_cons_succ]
  refine wpAnyH_done (by kernel_rfl) ?_ _
  have HB8 : Hid (Below w6.heap.size w6 w8) := B8
  clear hS B7 B8
  go_wp2_with fail
  refine (awake_any w8).mono ?_
  rintro e w9 ⟨rfl, b9⟩
  have H9 : Hid (Below w6.heap.size w6 w9) := ch HB8.out b9
  clear b9
  go_wp2_with fail
  refine (K4 w9 gI cI (HIV.out w9 (ch H6.out.2 H9.out)) (by omega)).mono ?_
  rintro e w10 ⟨vb10, vi10, rfl, o10, b10⟩
  obtain ⟨f1, f2, f3, f4, f5, f6, rfl, rfl⟩ := o10.lies.form
  obtain ⟨wC, eC⟩ : ∃ wC, wC = w10.alloc (.cells #[.bool l, .slice f1 f2 f3, .slice f4 f5 f6] 25) := ⟨_, rfl⟩
  have bC : Below w10.heap.size w10 wC := by rw [eC]; exact below_alloc _ _
  have yC : Bx wC w10.heap.size 25 (.bool l) (.slice f1 f2 f3) (.slice f4 f5 f6) := by rw [eC]; exact heap_alloc_new _ _
  have HC : Hid (wC = w10.alloc (.cells #[.bool l, .slice f1 f2 f3, .slice f4 f5 f6] 25) ∧ Below w9.heap.size w9 wC ∧ Own wC w9.heap.size w10.heap.size X (.slice f1 f2 f3) (.slice f4 f5 f6) ∧ Bx wC w10.heap.size 25 (.bool l) (.slice f1 f2 f3) (.slice f4 f5 f6) ∧ wC.heap.size = w10.heap.size + 1 ∧ w9.heap.size ≤ w10.heap.size) := ⟨eC, ch b10 bC, o10.keep bC (Nat.le_refl _), yC, by rw [eC]; simp, b10.size⟩
  clear K4 o10 b10 eC bC yC
  obtain ⟨wZ, eZ⟩ : ∃ wZ, wZ = wC.alloc (.cells #[.int .u8 200, .int .u8 131, .int .u8 99, .int .u8 97, .int .u8 116, .int .u8 131, .int .u8 100, .int .u8 111, .int .u8 103] 5) := ⟨_, rfl⟩
  have bZ : Below wC.heap.size wC wZ := by rw [eZ]; exact below_alloc _ _
  have hvZ : Vw wZ (some ⟨wC.heap.size, 0, none⟩) wC.heap.size 0 cdB := vw_row (s := cdB) (fr := (0, 0)) (by rw [eZ]; exact heap_alloc_new wC _) (by decide) (by decide)
  have KZ := decode_any wZ _ _ _ 9 cdB hvZ (by decide) (by decide)
  unfold DecPost at KZ
  rw [cd_decX, cd_decP, cd_decE, show cdI.l = true from rfl, show cdB.length = 9 from rfl] at KZ
  have HZ : Hid (wZ = wC.alloc (.cells #[.int .u8 200, .int .u8 131, .int .u8 99, .int .u8 97, .int .u8 116, .int .u8 131, .int .u8 100, .int .u8 111, .int .u8 103] 5) ∧ Below wC.heap.size wC wZ) := ⟨eZ, bZ⟩
  have HZC : Hid (w10.alloc (.cells #[.bool l, .slice f1 f2 f3, .slice f4 f5 f6] 25) = wC ∧ wC.heap.size = w10.heap.size + 1) := ⟨HC.out.1.symm, HC.out.2.2.2.2.1⟩
  clear eZ bZ hvZ
  rw [HZC.out.2] at KZ
  go_wp2_with fail
  rw [HZC.out.1, ← HZ.out.1]
  refine KZ.mono ?_
  rintro e w11 ⟨vb11, vi11, rfl, o11, b11⟩
  obtain ⟨h1, h2, h3, h4, h5, h6, rfl, rfl⟩ := o11.lies.form
  obtain ⟨wD, eD⟩ : ∃ wD, wD = w11.alloc (.cells #[.bool true, .slice h1 h2 h3, .slice h4 h5 h6] 25) := ⟨_, rfl⟩
  have bD : Below w11.heap.size w11 wD := by rw [eD]; exact below_alloc _ _
  have yD : Bx wD w11.heap.size 25 (.bool true) (.slice h1 h2 h3) (.slice h4 h5 h6) := by rw [eD]; exact heap_alloc_new _ _
  have HD : Hid (wD = w11.alloc (.cells #[.bool true, .slice h1 h2 h3, .slice h4 h5 h6] 25) ∧ Below wZ.heap.size wZ wD ∧ Own wD wZ.heap.size w11.heap.size cdI (.slice h1 h2 h3) (.slice h4 h5 h6) ∧ Bx wD w11.heap.size 25 (.bool true) (.slice h1 h2 h3) (.slice h4 h5 h6) ∧ wD.heap.size = w11.heap.size + 1 ∧ wZ.heap.size ≤ w11.heap.size) := ⟨eD, ch b11 bD, o11.keep bD (Nat.le_refl _), yD, by rw [eD]; simp, b11.size⟩
  have HCD : Hid (Below wC.heap.size wC wD ∧ Below w9.heap.size w9 wD ∧ Below w6.heap.size w6 wD ∧ Below w4.heap.size w4 wD) := ⟨ch HZ.out.2 HD.out.2.1, ch HC.out.2.1 (ch HZ.out.2 HD.out.2.1), ch H9.out (ch HC.out.2.1 (ch HZ.out.2 HD.out.2.1)), ch H6.out.2 (ch H9.out (ch HC.out.2.1 (ch HZ.out.2 HD.out.2.1)))⟩
  clear KZ o11 b11 eD bD yD
  go_wp2_with fail
  rw [← HD.out.1]
  refine (K5 wD gI cI (HIV.out wD HCD.out.2.2.2) (by omega)).mono ?_
  rintro e w12 ⟨v121, v122, rfl, T12⟩
  obtain ⟨av121, cv121, ev⟩ := T12.fst.slice
  rw [← HN.out.2.1] at ev
  subst ev
  obtain ⟨av122, cv122, ev⟩ := T12.snd.slice
  rw [← HN.out.2.2] at ev
  subst ev
  have H12 : Hid (Two wD w12 (.slice av121 n1 cv121) (.slice av122 n2 cv122) u1 u2 ∧ Below w6.heap.size w6 w12) := ⟨T12, ch HCD.out.2.2.1 T12.below⟩
  clear T12 K5 j1
  have HSB : Hid (∀ w', Below w12.heap.size w12 w' → ((convert 22 9 (.slice av121 n1 cv121)).run Try.prog w' = .ok (.string S1) w' ∧ (convert 22 9 (.slice av122 n2 cv122)).run Try.prog w' = .ok (.string S2) w')
      ∧ (w'.cell? ⟨w10.heap.size, 0, none⟩ = some (.bool l) ∧ w'.cell? ⟨w10.heap.size, 1, none⟩ = some (.slice f1 f2 f3) ∧ w'.cell? ⟨w10.heap.size, 2, none⟩ = some (.slice f4 f5 f6)) ∧ Own w' w9.heap.size w10.heap.size X (.slice f1 f2 f3) (.slice f4 f5 f6)) := fun w' k => by
    have kC := ch HCD.out.1 (ch H12.out.1.below k)
    have q := (HC.out.2.2.2.1.keep (kC.block _ HC.out.2.2.2.1.lt)).cells
    rw [HES.out.1, HES.out.2]
    exact ⟨⟨conv_str HN.out.2.1 (H12.out.1.fst.below k), conv_str HN.out.2.2 (H12.out.1.snd.below k)⟩, ⟨q.1, q.2.1, q.2.2.1⟩, HC.out.2.2.1.keep kC (by have := HC.out.2.2.2.2.1; omega)⟩
  go_wp2_with fail
  refine wp_region_held_drew (S := fun w' => Below w12.heap.size w12 w') (by kernel_rfl) ((Below.drew (Below.refl _ _))) ?_
  intro hS
  change wpAnyH _ _ _ _ _ 40 _ _ _
  generalize w12.drew = wd at hS ⊢
  refine wpAnyH_take (i := 0) (v := (.agg #[.bool l, .slice d1 d2 d3, .slice d4 d5 d6])) (by simp only [List.getElem?_toArray, List.getElem?_cons_zero]; rfl) (by kernel_rfl) (by kernel_rfl) (by kernel_rfl) (by exact fun _ _ _ h => h) (y_load25 (by kernel_rfl) _ rfl _ rfl _ _ _ (fun w' hs => (HS.out w' (ch H12.out.2 hs)).2.1)) hS ?_
  try simp only [Act.put, List.setIfInBounds_toArray, List.set_cons_zero, List.set_cons_succ]
  refine wpAnyH_take (i := 2) (v := (.agg #[.bool l, .slice c1 c2 c3, .slice c4 c5 c6])) (by simp only [List.getElem?_toArray, List.getElem?_cons_zero, List.getElem?_cons_succ]; rfl) (by kernel_rfl) (by kernel_rfl) (by kernel_rfl) (by exact fun _ _ _ h => h) (y_load34 (by kernel_rfl) _ rfl _ rfl _ _ _ (fun w' hs => (HS.out w' (ch H12.out.2 hs)).2.2.1)) hS ?_
  try simp only [Act.put, List.setIfInBounds_toArray, List.set_cons_zero, List.set_cons_succ]
  refine wpAnyH_ready (rs := [1]) (by kernel_rfl) (by simp) ?_
  refine AllReadyH.cons (by simp only [List.getElem?_toArray, List.getElem?_cons_zero, List.getElem?_cons_succ]; rfl) (fun K hK => ?_) AllReadyH.nil
  refine r_call1 11 _ _ rfl (by kernel_rfl) _ rfl eBack ?_
  refine (back_any' X wd _ _ l HEL.out ((HS.out _ (ch H12.out.2 hS)).2.2.2.1.lies)).mono ?_
  rintro e w13 ⟨vbw13, viw13, rfl, ow13, bbw13⟩
  have B13 : Below w12.heap.size w12 w13 := ch hS bbw13
  refine ⟨_, rfl, ?_⟩
  refine hK.out _ _ B13 (fun hS => ?_)
  clear hK K
  try simp only [Act.put, List.setIfInBounds_toArray, List.set_cons_zero, List.set_cons_succ]
  refine wpAnyH_ready (rs := [3]) (by kernel_rfl) (by simp) ?_
  refine AllReadyH.cons (by simp only [List.getElem?_toArray, List.getElem?_cons_zero, List.getElem?_cons_succ]; rfl) (fun K hK => ?_) AllReadyH.nil
  refine r_call2 10 _ _ _ rfl (by kernel_rfl) _ _ rfl rfl eSame ?_
  refine (same_any' X w13 _ _ _ _ l HEL.out ow13.lies ((HS.out _ (ch H12.out.2 B13)).2.2.2.2)).mono ?_
  rintro e w14 ⟨rfl, bxw13⟩
  have B14 : Below w12.heap.size w12 w14 := ch B13 bxw13
  refine ⟨_, rfl, ?_⟩
  refine hK.out _ _ B14 (fun hS => ?_)
  clear ow13 bbw13 bxw13
  clear hK K
  try simp only [Act.put, List.setIfInBounds_toArray, List.set_cons_zero, List.set_cons_succ]
  refine wpAnyH_take (i := 4) (v := (.bool false)) (by simp only [List.getElem?_toArray, List.getElem?_cons_zero, List.getElem?_cons_succ]; rfl) (by kernel_rfl) (by kernel_rfl) (by kernel_rfl) (by exact fun _ _ _ h => h) (y_notT (by kernel_rfl) _ rfl rfl) hS ?_
  try simp only [Act.put, List.setIfInBounds_toArray, List.set_cons_zero, List.set_cons_succ]
  refine wpAnyH_take (i := 5) (v := (.bool false)) (by simp only [List.getElem?_toArray, List.getElem?_cons_zero, List.getElem?_cons_succ]; rfl) (by kernel_rfl) (by kernel_rfl) (by kernel_rfl) (by exact fun _ _ _ h => h) (y_move (by kernel_rfl) _ rfl _ rfl) hS ?_
  try simp only [Act.put, List.setIfInBounds_toArray, List.set_cons_zero, List.set_cons_succ]
  refine wpAnyH_take (i := 6) (v := (.agg #[.bool l, .slice f1 f2 f3, .slice f4 f5 f6])) (by simp only [List.getElem?_toArray, List.getElem?_cons_zero, List.getElem?_cons_succ]; rfl) (by kernel_rfl) (by kernel_rfl) (by kernel_rfl) (by exact fun _ _ _ h => h) (y_load25 (by kernel_rfl) _ rfl _ rfl _ _ _ (fun w' hs => (HSB.out w' hs).2.1)) hS ?_
  try simp only [Act.put, List.setIfInBounds_toArray, List.set_cons_zero, List.set_cons_succ]
  refine wpAnyH_take (i := 8) (v := (.agg #[.bool l, .slice c1 c2 c3, .slice c4 c5 c6])) (by simp only [List.getElem?_toArray, List.getElem?_cons_zero, List.getElem?_cons_succ]; rfl) (by kernel_rfl) (by kernel_rfl) (by kernel_rfl) (by exact fun _ _ _ h => h) (y_load34 (by kernel_rfl) _ rfl _ rfl _ _ _ (fun w' hs => (HS.out w' (ch H12.out.2 hs)).2.2.1)) hS ?_
  try simp only [Act.put, List.setIfInBounds_toArray, List.set_cons_zero, List.set_cons_succ]
  refine wpAnyH_ready (rs := [7]) (by kernel_rfl) (by simp) ?_
  refine AllReadyH.cons (by simp only [List.getElem?_toArray, List.getElem?_cons_zero, List.getElem?_cons_succ]; rfl) (fun K hK => ?_) AllReadyH.nil
  refine r_call1 11 _ _ rfl (by kernel_rfl) _ rfl eBack ?_
  refine (back_any' X w14 _ _ l HEL.out ((HSB.out _ B14).2.2.lies)).mono ?_
  rintro e w15 ⟨vbw15, viw15, rfl, ow15, bbw15⟩
  have B15 : Below w12.heap.size w12 w15 := ch B14 bbw15
  refine ⟨_, rfl, ?_⟩
  refine hK.out _ _ B15 (fun hS => ?_)
  clear hK K
  try simp only [Act.put, List.setIfInBounds_toArray, List.set_cons_zero, List.set_cons_succ]
  refine wpAnyH_ready (rs := [9]) (by kernel_rfl) (by simp) ?_
  refine AllReadyH.cons (by simp only [List.getElem?_toArray, List.getElem?_cons_zero, List.getElem?_cons_succ]; rfl) (fun K hK => ?_) AllReadyH.nil
  refine r_call2 10 _ _ _ rfl (by kernel_rfl) _ _ rfl rfl eSame ?_
  refine (same_any' X w15 _ _ _ _ l HEL.out ow15.lies ((HS.out _ (ch H12.out.2 B15)).2.2.2.2)).mono ?_
  rintro e w16 ⟨rfl, bxw15⟩
  have B16 : Below w12.heap.size w12 w16 := ch B15 bxw15
  refine ⟨_, rfl, ?_⟩
  refine hK.out _ _ B16 (fun hS => ?_)
  clear ow15 bbw15 bxw15
  clear hK K
  try simp only [Act.put, List.setIfInBounds_toArray, List.set_cons_zero, List.set_cons_succ]
  refine wpAnyH_take (i := 10) (v := (.bool false)) (by simp only [List.getElem?_toArray, List.getElem?_cons_zero, List.getElem?_cons_succ]; rfl) (by kernel_rfl) (by kernel_rfl) (by kernel_rfl) (by exact fun _ _ _ h => h) (y_notT (by kernel_rfl) _ rfl rfl) hS ?_
  try simp only [Act.put, List.setIfInBounds_toArray, List.set_cons_zero, List.set_cons_succ]
  refine wpAnyH_take (i := 11) (v := (.bool false)) (by simp only [List.getElem?_toArray, List.getElem?_cons_zero, List.getElem?_cons_succ]; rfl) (by kernel_rfl) (by kernel_rfl) (by kernel_rfl) (by exact fun _ _ _ h => h) (y_pick_f (by kernel_rfl) _ _ _ rfl _ rfl rfl) hS ?_
  try simp only [Act.put, List.setIfInBounds_toArray, List.set_cons_zero, List.set_cons_succ]
  refine wpAnyH_take (i := 12) (v := (.bool false)) (by simp only [List.getElem?_toArray, List.getElem?_cons_zero, List.getElem?_cons_succ]; rfl) (by kernel_rfl) (by kernel_rfl) (by kernel_rfl) (by exact fun _ _ _ h => h) (y_move (by kernel_rfl) _ rfl _ rfl) hS ?_
  try simp only [Act.put, List.setIfInBounds_toArray, List.set_cons_zero, List.set_cons_succ]
  refine wpAnyH_take (i := 13) (v := (.slice av121 n1 cv121)) (by simp only [List.getElem?_toArray, List.getElem?_cons_zero, List.getElem?_cons_succ]; rfl) (by kernel_rfl) (by kernel_rfl) (by kernel_rfl) (by exact fun _ _ _ h => h) (y_move (by kernel_rfl) _ rfl _ rfl) hS ?_
  try simp only [Act.put, List.setIfInBounds_toArray, List.set_cons_zero, List.set_cons_succ]
  refine wpAnyH_take (i := 14) (v := (.string S1)) (by simp only [List.getElem?_toArray, List.getElem?_cons_zero, List.getElem?_cons_succ]; rfl) (by kernel_rfl) (by kernel_rfl) (by kernel_rfl) (by exact fun _ _ _ h => h) (y_conv (by kernel_rfl) _ rfl (.slice av121 n1 cv121) (.string S1) rfl (fun w' hs => (HSB.out w' hs).1.1)) hS ?_
  try simp only [Act.put, List.setIfInBounds_toArray, List.set_cons_zero, List.set_cons_succ]
  refine wpAnyH_take (i := 15) (v := (.slice av1 n1 cv1)) (by simp only [List.getElem?_toArray, List.getElem?_cons_zero, List.getElem?_cons_succ]; rfl) (by kernel_rfl) (by kernel_rfl) (by kernel_rfl) (by exact fun _ _ _ h => h) (y_move (by kernel_rfl) _ rfl _ rfl) hS ?_
  try simp only [Act.put, List.setIfInBounds_toArray, List.set_cons_zero, List.set_cons_succ]
  refine wpAnyH_take (i := 16) (v := (.string S1)) (by simp only [List.getElem?_toArray, List.getElem?_cons_zero, List.getElem?_cons_succ]; rfl) (by kernel_rfl) (by kernel_rfl) (by kernel_rfl) (by exact fun _ _ _ h => h) (y_conv (by kernel_rfl) _ rfl (.slice av1 n1 cv1) (.string S1) rfl (fun w' hs => (HS.out w' (ch H12.out.2 hs)).1.2.2.1)) hS ?_
  try simp only [Act.put, List.setIfInBounds_toArray, List.set_cons_zero, List.set_cons_succ]
  refine wpAnyH_take (i := 17) (v := (.bool false)) (by simp only [List.getElem?_toArray, List.getElem?_cons_zero, List.getElem?_cons_succ]; rfl) (by kernel_rfl) (by kernel_rfl) (by kernel_rfl) (by exact fun _ _ _ h => h) (y_neqS (by kernel_rfl) _ _ rfl _ rfl rfl) hS ?_
  try simp only [Act.put, List.setIfInBounds_toArray, List.set_cons_zero, List.set_cons_succ]
  refine wpAnyH_take (i := 18) (v := (.bool false)) (by simp only [List.getElem?_toArray, List.getElem?_cons_zero, List.getElem?_cons_succ]; rfl) (by kernel_rfl) (by kernel_rfl) (by kernel_rfl) (by exact fun _ _ _ h => h) (y_pick_f (by kernel_rfl) _ _ _ rfl _ rfl rfl) hS ?_
  try simp only [Act.put, List.setIfInBounds_toArray, List.set_cons_zero, List.set_cons_succ]
  refine wpAnyH_take (i := 19) (v := (.bool false)) (by simp only [List.getElem?_toArray, List.getElem?_cons_zero, List.getElem?_cons_succ]; rfl) (by kernel_rfl) (by kernel_rfl) (by kernel_rfl) (by exact fun _ _ _ h => h) (y_move (by kernel_rfl) _ rfl _ rfl) hS ?_
  try simp only [Act.put, List.setIfInBounds_toArray, List.set_cons_zero, List.set_cons_succ]
  refine wpAnyH_take (i := 20) (v := (.slice av122 n2 cv122)) (by simp only [List.getElem?_toArray, List.getElem?_cons_zero, List.getElem?_cons_succ]; rfl) (by kernel_rfl) (by kernel_rfl) (by kernel_rfl) (by exact fun _ _ _ h => h) (y_move (by kernel_rfl) _ rfl _ rfl) hS ?_
  try simp only [Act.put, List.setIfInBounds_toArray, List.set_cons_zero, List.set_cons_succ]
  refine wpAnyH_take (i := 21) (v := (.string S2)) (by simp only [List.getElem?_toArray, List.getElem?_cons_zero, List.getElem?_cons_succ]; rfl) (by kernel_rfl) (by kernel_rfl) (by kernel_rfl) (by exact fun _ _ _ h => h) (y_conv (by kernel_rfl) _ rfl (.slice av122 n2 cv122) (.string S2) rfl (fun w' hs => (HSB.out w' hs).1.2)) hS ?_
  try simp only [Act.put, List.setIfInBounds_toArray, List.set_cons_zero, List.set_cons_succ]
  refine wpAnyH_take (i := 22) (v := (.slice av2 n2 cv2)) (by simp only [List.getElem?_toArray, List.getElem?_cons_zero, List.getElem?_cons_succ]; rfl) (by kernel_rfl) (by kernel_rfl) (by kernel_rfl) (by exact fun _ _ _ h => h) (y_move (by kernel_rfl) _ rfl _ rfl) hS ?_
  try simp only [Act.put, List.setIfInBounds_toArray, List.set_cons_zero, List.set_cons_succ]
  refine wpAnyH_take (i := 23) (v := (.string S2)) (by simp only [List.getElem?_toArray, List.getElem?_cons_zero, List.getElem?_cons_succ]; rfl) (by kernel_rfl) (by kernel_rfl) (by kernel_rfl) (by exact fun _ _ _ h => h) (y_conv (by kernel_rfl) _ rfl (.slice av2 n2 cv2) (.string S2) rfl (fun w' hs => (HS.out w' (ch H12.out.2 hs)).1.2.2.2)) hS ?_
  try simp only [Act.put, List.setIfInBounds_toArray, List.set_cons_zero, List.set_cons_succ]
  refine wpAnyH_take (i := 24) (v := (.bool false)) (by simp only [List.getElem?_toArray, List.getElem?_cons_zero, List.getElem?_cons_succ]; rfl) (by kernel_rfl) (by kernel_rfl) (by kernel_rfl) (by exact fun _ _ _ h => h) (y_neqS (by kernel_rfl) _ _ rfl _ rfl rfl) hS ?_
  try simp only [Act.put, List.setIfInBounds_toArray, List.set_cons_zero, List.set_cons_succ]
  refine wpAnyH_take (i := 25) (v := (.bool false)) (by simp only [List.getElem?_toArray, List.getElem?_cons_zero, List.getElem?_cons_succ]; rfl) (by kernel_rfl) (by kernel_rfl) (by kernel_rfl) (by exact fun _ _ _ h => h) (y_pick_f (by kernel_rfl) _ _ _ rfl _ rfl rfl) hS ?_
  try simp only [Act.put, List.setIfInBounds_toArray, List.set_cons_zero, List.set_cons_succ]
  refine wpAnyH_take (i := 26) (v := (.bool false)) (by simp only [List.getElem?_toArray, List.getElem?_cons_zero, List.getElem?_cons_succ]; rfl) (by kernel_rfl) (by kernel_rfl) (by kernel_rfl) (by exact fun _ _ _ h => h) (y_move (by kernel_rfl) _ rfl _ rfl) hS ?_
  try simp only [Act.put, List.setIfInBounds_toArray, List.set_cons_zero, List.set_cons_succ]
  refine wpAnyH_take (i := 27) (v := (.slice av61 n1 cv61)) (by simp only [List.getElem?_toArray, List.getElem?_cons_zero, List.getElem?_cons_succ]; rfl) (by kernel_rfl) (by kernel_rfl) (by kernel_rfl) (by exact fun _ _ _ h => h) (y_move (by kernel_rfl) _ rfl _ rfl) hS ?_
  try simp only [Act.put, List.setIfInBounds_toArray, List.set_cons_zero, List.set_cons_succ]
  refine wpAnyH_take (i := 28) (v := (.string S1)) (by simp only [List.getElem?_toArray, List.getElem?_cons_zero, List.getElem?_cons_succ]; rfl) (by kernel_rfl) (by kernel_rfl) (by kernel_rfl) (by exact fun _ _ _ h => h) (y_conv (by kernel_rfl) _ rfl (.slice av61 n1 cv61) (.string S1) rfl (fun w' hs => (HS.out w' (ch H12.out.2 hs)).1.1)) hS ?_
  try simp only [Act.put, List.setIfInBounds_toArray, List.set_cons_zero, List.set_cons_succ]
  refine wpAnyH_take (i := 29) (v := (.slice av1 n1 cv1)) (by simp only [List.getElem?_toArray, List.getElem?_cons_zero, List.getElem?_cons_succ]; rfl) (by kernel_rfl) (by kernel_rfl) (by kernel_rfl) (by exact fun _ _ _ h => h) (y_move (by kernel_rfl) _ rfl _ rfl) hS ?_
  try simp only [Act.put, List.setIfInBounds_toArray, List.set_cons_zero, List.set_cons_succ]
  refine wpAnyH_take (i := 30) (v := (.string S1)) (by simp only [List.getElem?_toArray, List.getElem?_cons_zero, List.getElem?_cons_succ]; rfl) (by kernel_rfl) (by kernel_rfl) (by kernel_rfl) (by exact fun _ _ _ h => h) (y_conv (by kernel_rfl) _ rfl (.slice av1 n1 cv1) (.string S1) rfl (fun w' hs => (HS.out w' (ch H12.out.2 hs)).1.2.2.1)) hS ?_
  try simp only [Act.put, List.setIfInBounds_toArray, List.set_cons_zero, List.set_cons_succ]
  refine wpAnyH_take (i := 31) (v := (.bool false)) (by simp only [List.getElem?_toArray, List.getElem?_cons_zero, List.getElem?_cons_succ]; rfl) (by kernel_rfl) (by kernel_rfl) (by kernel_rfl) (by exact fun _ _ _ h => h) (y_neqS (by kernel_rfl) _ _ rfl _ rfl rfl) hS ?_
  try simp only [Act.put, List.setIfInBounds_toArray, List.set_cons_zero, List.set_cons_succ]
  refine wpAnyH_take (i := 32) (v := (.bool false)) (by simp only [List.getElem?_toArray, List.getElem?_cons_zero, List.getElem?_cons_succ]; rfl) (by kernel_rfl) (by kernel_rfl) (by kernel_rfl) (by exact fun _ _ _ h => h) (y_pick_f (by kernel_rfl) _ _ _ rfl _ rfl rfl) hS ?_
  try simp only [Act.put, List.setIfInBounds_toArray, List.set_cons_zero, List.set_cons_succ]
  refine wpAnyH_take (i := 33) (v := (.bool false)) (by simp only [List.getElem?_toArray, List.getElem?_cons_zero, List.getElem?_cons_succ]; rfl) (by kernel_rfl) (by kernel_rfl) (by kernel_rfl) (by exact fun _ _ _ h => h) (y_move (by kernel_rfl) _ rfl _ rfl) hS ?_
  try simp only [Act.put, List.setIfInBounds_toArray, List.set_cons_zero, List.set_cons_succ]
  refine wpAnyH_take (i := 34) (v := (.slice av62 n2 cv62)) (by simp only [List.getElem?_toArray, List.getElem?_cons_zero, List.getElem?_cons_succ]; rfl) (by kernel_rfl) (by kernel_rfl) (by kernel_rfl) (by exact fun _ _ _ h => h) (y_move (by kernel_rfl) _ rfl _ rfl) hS ?_
  try simp only [Act.put, List.setIfInBounds_toArray, List.set_cons_zero, List.set_cons_succ]
  refine wpAnyH_take (i := 35) (v := (.string S2)) (by simp only [List.getElem?_toArray, List.getElem?_cons_zero, List.getElem?_cons_succ]; rfl) (by kernel_rfl) (by kernel_rfl) (by kernel_rfl) (by exact fun _ _ _ h => h) (y_conv (by kernel_rfl) _ rfl (.slice av62 n2 cv62) (.string S2) rfl (fun w' hs => (HS.out w' (ch H12.out.2 hs)).1.2.1)) hS ?_
  try simp only [Act.put, List.setIfInBounds_toArray, List.set_cons_zero, List.set_cons_succ]
  refine wpAnyH_take (i := 36) (v := (.slice av2 n2 cv2)) (by simp only [List.getElem?_toArray, List.getElem?_cons_zero, List.getElem?_cons_succ]; rfl) (by kernel_rfl) (by kernel_rfl) (by kernel_rfl) (by exact fun _ _ _ h => h) (y_move (by kernel_rfl) _ rfl _ rfl) hS ?_
  try simp only [Act.put, List.setIfInBounds_toArray, List.set_cons_zero, List.set_cons_succ]
  refine wpAnyH_take (i := 37) (v := (.string S2)) (by simp only [List.getElem?_toArray, List.getElem?_cons_zero, List.getElem?_cons_succ]; rfl) (by kernel_rfl) (by kernel_rfl) (by kernel_rfl) (by exact fun _ _ _ h => h) (y_conv (by kernel_rfl) _ rfl (.slice av2 n2 cv2) (.string S2) rfl (fun w' hs => (HS.out w' (ch H12.out.2 hs)).1.2.2.2)) hS ?_
  try simp only [Act.put, List.setIfInBounds_toArray, List.set_cons_zero, List.set_cons_succ]
  refine wpAnyH_take (i := 38) (v := (.bool false)) (by simp only [List.getElem?_toArray, List.getElem?_cons_zero, List.getElem?_cons_succ]; rfl) (by kernel_rfl) (by kernel_rfl) (by kernel_rfl) (by exact fun _ _ _ h => h) (y_neqS (by kernel_rfl) _ _ rfl _ rfl rfl) hS ?_
  try simp only [Act.put, List.setIfInBounds_toArray, List.set_cons_zero, List.set_cons_succ]
  refine wpAnyH_take (i := 39) (v := (.bool false)) (by simp only [List.getElem?_toArray, List.getElem?_cons_zero, List.getElem?_cons_succ]; rfl) (by kernel_rfl) (by kernel_rfl) (by kernel_rfl) (by exact fun _ _ _ h => h) (y_pick_f (by kernel_rfl) _ _ _ rfl _ rfl rfl) hS ?_
  try simp only [Act.put, List.setIfInBounds_toArray, List.set_cons_zero, List.set_cons_succ]
  refine wpAnyH_done (by kernel_rfl) ?_ _
  have HB16 : Hid (Below w12.heap.size w12 w16) := B16
  clear hS B13 B14 B15 B16
  go_wp2_with fail
  have HSZ : Hid (w.heap.size ≤ w2.heap.size ∧ w2.heap.size ≤ w4.heap.size ∧ w4.heap.size ≤ w5.heap.size ∧ wB.heap.size = w5.heap.size + 1 ∧ wB.heap.size ≤ w6.heap.size ∧ w6.heap.size ≤ w9.heap.size ∧ w9.heap.size ≤ w10.heap.size ∧ wC.heap.size = w10.heap.size + 1 ∧ wC.heap.size ≤ wZ.heap.size ∧ wZ.heap.size ≤ w11.heap.size ∧ wD.heap.size = w11.heap.size + 1 ∧ wD.heap.size ≤ w12.heap.size) := ⟨Nat.le_trans HA.out.2.1.size H2.out.1.size, HK4.out.size, HB.out.2.2.2.2.2, HB.out.2.2.2.2.1, H6.out.1.below.size, H9.out.size, HC.out.2.2.2.2.2, HC.out.2.2.2.2.1, HZ.out.2.size, HD.out.2.2.2.2.2, HD.out.2.2.2.2.1, H12.out.1.below.size⟩
  obtain ⟨F, eF⟩ : ∃ F : Nat → Prop, F = fun i => (w4.heap.size ≤ i ∧ i < w5.heap.size) ∨ (w9.heap.size ≤ i ∧ i < w10.heap.size) ∨ (wZ.heap.size ≤ i ∧ i < w11.heap.size) := ⟨_, rfl⟩
  obtain ⟨G, eG⟩ : ∃ G : Nat → Prop, G = fun i => F i ∨ (wB.heap.size ≤ i ∧ i < w6.heap.size) ∨ (wD.heap.size ≤ i ∧ i < w12.heap.size) := ⟨_, rfl⟩
  have hF : ∀ i, F i → (w4.heap.size ≤ i ∧ i < w5.heap.size) ∨ (w9.heap.size ≤ i ∧ i < w10.heap.size) ∨ (wZ.heap.size ≤ i ∧ i < w11.heap.size) := fun i h => by rw [eF] at h; exact h
  have hG : ∀ i, G i → (w4.heap.size ≤ i ∧ i < w5.heap.size) ∨ (w9.heap.size ≤ i ∧ i < w10.heap.size) ∨ (wZ.heap.size ≤ i ∧ i < w11.heap.size) ∨ (wB.heap.size ≤ i ∧ i < w6.heap.size) ∨ (wD.heap.size ≤ i ∧ i < w12.heap.size) := fun i h => by
    rw [eG] at h
    rcases h with h | h | h
    · rcases hF i h with q | q | q
      · exact Or.inl q
      · exact Or.inr (Or.inl q)
      · exact Or.inr (Or.inr (Or.inl q))
    · exact Or.inr (Or.inr (Or.inr (Or.inl h)))
    · exact Or.inr (Or.inr (Or.inr (Or.inr h)))
  have HG : Hid (∀ i, G i → w4.heap.size ≤ i) := fun i h => by
    obtain ⟨z1, z2, z3, z4, z5, z6, z7, z8, z9, z10, z11, z12⟩ := HSZ.out
    have := hG i h
    omega
  have HSM : Hid (∀ wd, Below w12.heap.size w12 wd → Calls Try.prog 17 #[.slice (some ⟨wd.heap.size, 0, none⟩) 3 3] (wd.alloc (.cells #[.bool l, .slice d1 d2 d3, .slice d4 d5 d6, .bool l, .slice f1 f2 f3, .slice f4 f5 f6, .bool true, .slice h1 h2 h3, .slice h4 h5 h6] 25)) fun e w' => e = .returned (.bool true) ∧ Turn F w12 w') := fun wd k => by
    obtain ⟨z1, z2, z3, z4, z5, z6, z7, z8, z9, z10, z11, z12⟩ := HSZ.out
    rw [eF]
    exact smud3 k HEL.out HND.out (HS.out _ H12.out.2).2.2.2.1 (HSB.out _ (Below.refl _ _)).2.2 (HD.out.2.2.1.keep H12.out.1.below (by omega)) (by omega) (by omega) (by omega) (by omega) (by omega) (by omega)
  have HAP : Hid (∀ w1, Turn F w12 w1 → Calls Try.prog 18 #[.slice (some ⟨w1.heap.size, 0, none⟩) 4 4] (w1.alloc (.cells #[.slice av61 n1 cv61, .slice av62 n2 cv62, .slice av121 n1 cv121, .slice av122 n2 cv122] 22)) fun e w' => e = .returned (.bool true) ∧ Turn G w12 w') := fun w1 t => by
    obtain ⟨z1, z2, z3, z4, z5, z6, z7, z8, z9, z10, z11, z12⟩ := HSZ.out
    have lu1 : u1.length ≤ 140737488351232 := by have := HN.out.2.1; omega
    have lu2 : u2.length ≤ 140737488351232 := by have := HN.out.2.2; omega
    have p1 := H6.out.1.fst
    have p2 := H6.out.1.snd
    have p3 := H12.out.1.fst
    have p4 := H12.out.1.snd
    have k6 := H12.out.2
    refine apart4 t (q1 := wB.heap.size) (q2 := w6.heap.size) (q3 := wD.heap.size) (q4 := w12.heap.size) ⟨⟨u1, (p1.below k6).mono (fun _ _ => trivial), lu1⟩, p1.foot, fun g hg => (p1.own.lt g hg).2⟩ ⟨⟨u2, (p2.below k6).mono (fun _ _ => trivial), lu2⟩, p2.foot, fun g hg => (p2.own.lt g hg).2⟩ ⟨⟨u1, p3.mono (fun _ _ => trivial), lu1⟩, p3.foot, fun g hg => (p3.own.lt g hg).2⟩ ⟨⟨u2, p4.mono (fun _ _ => trivial), lu2⟩, p4.foot, fun g hg => (p4.own.lt g hg).2⟩ H6.out.1.sep H12.out.1.sep (by omega) (fun i q1 q2 h => ?_) (fun i q1 q2 h => ?_) (fun i h => ?_) (fun i q1 q2 => ?_) (fun i q1 q2 => ?_)
    · have := hF i h; omega
    · have := hF i h; omega
    · rw [eG]; exact Or.inl h
    · rw [eG]; exact Or.inr (Or.inl ⟨q1, q2⟩)
    · rw [eG]; exact Or.inr (Or.inr ⟨q1, q2⟩)
  obtain ⟨SI, eSI⟩ : ∃ SI, SI = str (n + 3) (fun i => ((gd (s ++ [1, 2, 3]) i : Nat) : Int)) := ⟨_, rfl⟩
  have HSI : Hid (∀ w' B v, w'.ownsRow B 5 1 v (n + 3) (bv (s ++ [1, 2, 3])) → (convert 22 9 v).run Try.prog w' = .ok (.string SI) w') := fun w' B v own => by
    rw [eSI]
    exact conv_own own HI4.out.2.2.2.symm HI4.out.2.1.ok
  have HF : Hid (∀ w', Turn G w12 w' → (convert 22 9 (.slice (some ⟨gI, 0, none⟩) (n + 3) cI)).run Try.prog w' = .ok (.string SI) w' ∧ View w' a b off n (fun i => ((gd s i : Nat) : Int))
      ∧ (w'.cell? ⟨w5.heap.size, 0, none⟩ = some (.bool l) ∧ w'.cell? ⟨w5.heap.size, 1, none⟩ = some (.slice d1 d2 d3) ∧ w'.cell? ⟨w5.heap.size, 2, none⟩ = some (.slice d4 d5 d6))
      ∧ (w'.cell? ⟨w10.heap.size, 0, none⟩ = some (.bool l) ∧ w'.cell? ⟨w10.heap.size, 1, none⟩ = some (.slice f1 f2 f3) ∧ w'.cell? ⟨w10.heap.size, 2, none⟩ = some (.slice f4 f5 f6))
      ∧ (w'.cell? ⟨w11.heap.size, 0, none⟩ = some (.bool true) ∧ w'.cell? ⟨w11.heap.size, 1, none⟩ = some (.slice h1 h2 h3) ∧ w'.cell? ⟨w11.heap.size, 2, none⟩ = some (.slice h4 h5 h6))) := fun w' t => by
    obtain ⟨z1, z2, z3, z4, z5, z6, z7, z8, z9, z10, z11, z12⟩ := HSZ.out
    have q5 := (HS.out _ H12.out.2).2.1
    have q10 := (HSB.out _ (Below.refl _ _)).2.1
    have q11 := (HD.out.2.2.2.1.keep (H12.out.1.below.block _ HD.out.2.2.2.1.lt)).cells
    have n5 : ¬ G w5.heap.size := fun h => by have := hG _ h; omega
    have n10 : ¬ G w10.heap.size := fun h => by have := hG _ h; omega
    have n11 : ¬ G w11.heap.size := fun h => by have := hG _ h; omega
    have c : ∀ (g j : Nat), g < w12.heap.size → ¬ G g → w'.cell? ⟨g, j, none⟩ = w12.cell? ⟨g, j, none⟩ := fun g j h1 h2 => t.cell (q := ⟨g, j, none⟩) h1 h2
    rw [c w5.heap.size 0 (by omega) n5, c w5.heap.size 1 (by omega) n5, c w5.heap.size 2 (by omega) n5, c w10.heap.size 0 (by omega) n10, c w10.heap.size 1 (by omega) n10, c w10.heap.size 2 (by omega) n10, c w11.heap.size 0 (by omega) n11, c w11.heap.size 1 (by omega) n11, c w11.heap.size 2 (by omega) n11]
    have k4 : Below w4.heap.size w4 w12 := ch H6.out.2 H12.out.2
    have b4 : Below w.heap.size w w12 := ch HA.out.2.1 (ch HI4.out.1 k4)
    have T : Turn (fun i => w4.heap.size ≤ i) w4 w' := (Turn.of_below k4).trans t (fun i h => Or.inl (HG.out i h))
    have T0 : Turn (fun i => w4.heap.size ≤ i) w12 w' := t.mono (fun i h => Or.inl (HG.out i h))
    have sI := (HI4.out.2.1.mono (fun _ _ => trivial)).turn' T (fun g hg => Nat.not_le.2 (HI4.out.2.1.own.lt g hg).2)
    refine ⟨?_, ?_, q5, q10, ⟨q11.1, q11.2.1, q11.2.2.1⟩⟩
    · rw [eSI]
      exact conv_str HI4.out.2.2.2.symm sI
    · rw [HN.out.1]
      exact (HV.out _ b4).turn T0 (fun hn h => by have := (HV.out _ (Below.refl _ _)).lt hn; omega)
  have HFG : Hid (∀ w', Turn F w12 w' → Turn G w12 w') := fun w' t => t.mono (fun i h => by rw [eG]; exact Or.inl (Or.inl h))
  clear eSI hF hG eF eG
  have HBD : Hid (Below w12.heap.size w12 w16.drew) := Below.drew HB16.out
  refine wp_region_held_drew (S := fun w' => Turn G w12 w') (by kernel_rfl) (Turn.of_below (Below.drew HB16.out)) ?_
  intro hS
  change wpAnyH _ _ _ _ _ 25 _ _ _
  generalize w16.drew = wd at hS HBD ⊢
  refine wpAnyH_take (i := 0) (v := (.agg #[.bool l, .slice d1 d2 d3, .slice d4 d5 d6])) (by simp only [List.getElem?_toArray, List.getElem?_cons_zero]; rfl) (by kernel_rfl) (by kernel_rfl) (by kernel_rfl) (by exact fun _ _ _ h => h) (y_load25 (by kernel_rfl) _ rfl _ rfl _ _ _ (fun w' hs => (HF.out w' hs).2.2.1)) hS ?_
  try simp only [Act.put, List.setIfInBounds_toArray, List.set_cons_zero, List.set_cons_succ]
  refine wpAnyH_take (i := 1) (v := (.agg #[.bool l, .slice f1 f2 f3, .slice f4 f5 f6])) (by simp only [List.getElem?_toArray, List.getElem?_cons_zero, List.getElem?_cons_succ]; rfl) (by kernel_rfl) (by kernel_rfl) (by kernel_rfl) (by exact fun _ _ _ h => h) (y_load25 (by kernel_rfl) _ rfl _ rfl _ _ _ (fun w' hs => (HF.out w' hs).2.2.2.1)) hS ?_
  try simp only [Act.put, List.setIfInBounds_toArray, List.set_cons_zero, List.set_cons_succ]
  refine wpAnyH_take (i := 2) (v := (.agg #[.bool true, .slice h1 h2 h3, .slice h4 h5 h6])) (by simp only [List.getElem?_toArray, List.getElem?_cons_zero, List.getElem?_cons_succ]; rfl) (by kernel_rfl) (by kernel_rfl) (by kernel_rfl) (by exact fun _ _ _ h => h) (y_load25 (by kernel_rfl) _ rfl _ rfl _ _ _ (fun w' hs => (HF.out w' hs).2.2.2.2)) hS ?_
  try simp only [Act.put, List.setIfInBounds_toArray, List.set_cons_zero, List.set_cons_succ]
  refine wpAnyH_ready (rs := [3]) (by kernel_rfl) (by simp) ?_
  refine AllReadyH.cons (by simp only [List.getElem?_toArray, List.getElem?_cons_zero, List.getElem?_cons_succ]; rfl) (fun K hK => ?_) AllReadyH.nil
  refine r_buildI3 _ _ _ rfl (by kernel_rfl) _ _ _ _ _ _ _ _ _ _ _ _ _ _ _ _ _ _ _ _ _ rfl rfl rfl ?_
  refine hK.out _ _ (hS.trans (Turn.alloc (F := fun _ => False) _ _) (fun _ h => h.elim)) (fun hS => ?_)
  clear hK K
  try simp only [Act.put, List.setIfInBounds_toArray, List.set_cons_zero, List.set_cons_succ]
  refine wpAnyH_ready (rs := [4]) (by kernel_rfl) (by simp) ?_
  refine AllReadyH.cons (by simp only [List.getElem?_toArray, List.getElem?_cons_zero, List.getElem?_cons_succ]; rfl) (fun K hK => ?_) AllReadyH.nil
  refine r_call1 17 _ _ rfl (by kernel_rfl) _ rfl eSmud ?_
  refine (HSM.out wd HBD.out).mono ?_
  rintro e w17 ⟨rfl, t17⟩
  refine ⟨_, rfl, ?_⟩
  refine hK.out _ _ (HFG.out _ t17) (fun hS => ?_)
  have HT17 : Hid (Turn F w12 w17) := t17
  clear t17
  clear hK K
  try simp only [Act.put, List.setIfInBounds_toArray, List.set_cons_zero, List.set_cons_succ]
  refine wpAnyH_take (i := 5) (v := (.bool true)) (by simp only [List.getElem?_toArray, List.getElem?_cons_zero, List.getElem?_cons_succ]; rfl) (by kernel_rfl) (by kernel_rfl) (by kernel_rfl) (by exact fun _ _ _ h => h) (y_move (by kernel_rfl) _ rfl _ rfl) hS ?_
  try simp only [Act.put, List.setIfInBounds_toArray, List.set_cons_zero, List.set_cons_succ]
  refine wpAnyH_take (i := 6) (v := (.slice av61 n1 cv61)) (by simp only [List.getElem?_toArray, List.getElem?_cons_zero, List.getElem?_cons_succ]; rfl) (by kernel_rfl) (by kernel_rfl) (by kernel_rfl) (by exact fun _ _ _ h => h) (y_move (by kernel_rfl) _ rfl _ rfl) hS ?_
  try simp only [Act.put, List.setIfInBounds_toArray, List.set_cons_zero, List.set_cons_succ]
  refine wpAnyH_take (i := 7) (v := (.slice av62 n2 cv62)) (by simp only [List.getElem?_toArray, List.getElem?_cons_zero, List.getElem?_cons_succ]; rfl) (by kernel_rfl) (by kernel_rfl) (by kernel_rfl) (by exact fun _ _ _ h => h) (y_move (by kernel_rfl) _ rfl _ rfl) hS ?_
  try simp only [Act.put, List.setIfInBounds_toArray, List.set_cons_zero, List.set_cons_succ]
  refine wpAnyH_take (i := 8) (v := (.slice av121 n1 cv121)) (by simp only [List.getElem?_toArray, List.getElem?_cons_zero, List.getElem?_cons_succ]; rfl) (by kernel_rfl) (by kernel_rfl) (by kernel_rfl) (by exact fun _ _ _ h => h) (y_move (by kernel_rfl) _ rfl _ rfl) hS ?_
  try simp only [Act.put, List.setIfInBounds_toArray, List.set_cons_zero, List.set_cons_succ]
  refine wpAnyH_take (i := 9) (v := (.slice av122 n2 cv122)) (by simp only [List.getElem?_toArray, List.getElem?_cons_zero, List.getElem?_cons_succ]; rfl) (by kernel_rfl) (by kernel_rfl) (by kernel_rfl) (by exact fun _ _ _ h => h) (y_move (by kernel_rfl) _ rfl _ rfl) hS ?_
  try simp only [Act.put, List.setIfInBounds_toArray, List.set_cons_zero, List.set_cons_succ]
  refine wpAnyH_ready (rs := [10]) (by kernel_rfl) (by simp) ?_
  refine AllReadyH.cons (by simp only [List.getElem?_toArray, List.getElem?_cons_zero, List.getElem?_cons_succ]; rfl) (fun K hK => ?_) AllReadyH.nil
  refine r_build4 _ _ _ _ rfl (by kernel_rfl) _ _ _ _ _ _ _ _ _ _ _ _ rfl rfl rfl rfl ?_
  refine hK.out _ _ (hS.trans (Turn.alloc (F := fun _ => False) _ _) (fun _ h => h.elim)) (fun hS => ?_)
  clear hK K
  try simp only [Act.put, List.setIfInBounds_toArray, List.set_cons_zero, List.set_cons_succ]
  refine wpAnyH_ready (rs := [11]) (by kernel_rfl) (by simp) ?_
  refine AllReadyH.cons (by simp only [List.getElem?_toArray, List.getElem?_cons_zero, List.getElem?_cons_succ]; rfl) (fun K hK => ?_) AllReadyH.nil
  refine r_call1 18 _ _ rfl (by kernel_rfl) _ rfl eApart ?_
  refine (HAP.out w17 HT17.out).mono ?_
  rintro e w18 ⟨rfl, t18⟩
  refine ⟨_, rfl, ?_⟩
  refine hK.out _ _ t18 (fun hS => ?_)
  have HT18 : Hid (Turn G w12 w18) := t18
  clear t18
  clear hK K
  try simp only [Act.put, List.setIfInBounds_toArray, List.set_cons_zero, List.set_cons_succ]
  refine wpAnyH_take (i := 12) (v := (.bool true)) (by simp only [List.getElem?_toArray, List.getElem?_cons_zero, List.getElem?_cons_succ]; rfl) (by kernel_rfl) (by kernel_rfl) (by kernel_rfl) (by exact fun _ _ _ h => h) (y_pick_t (by kernel_rfl) _ _ _ rfl _ rfl rfl) hS ?_
  try simp only [Act.put, List.setIfInBounds_toArray, List.set_cons_zero, List.set_cons_succ]
  refine wpAnyH_take (i := 13) (v := (.bool true)) (by simp only [List.getElem?_toArray, List.getElem?_cons_zero, List.getElem?_cons_succ]; rfl) (by kernel_rfl) (by kernel_rfl) (by kernel_rfl) (by exact fun _ _ _ h => h) (y_move (by kernel_rfl) _ rfl _ rfl) hS ?_
  try simp only [Act.put, List.setIfInBounds_toArray, List.set_cons_zero, List.set_cons_succ]
  refine wpAnyH_take (i := 14) (v := (.slice (some ⟨gI, 0, none⟩) (n + 3) cI)) (by simp only [List.getElem?_toArray, List.getElem?_cons_zero, List.getElem?_cons_succ]; rfl) (by kernel_rfl) (by kernel_rfl) (by kernel_rfl) (by exact fun _ _ _ h => h) (y_move (by kernel_rfl) _ rfl _ rfl) hS ?_
  try simp only [Act.put, List.setIfInBounds_toArray, List.set_cons_zero, List.set_cons_succ]
  refine wpAnyH_take (i := 15) (v := (.string SI)) (by simp only [List.getElem?_toArray, List.getElem?_cons_zero, List.getElem?_cons_succ]; rfl) (by kernel_rfl) (by kernel_rfl) (by kernel_rfl) (by exact fun _ _ _ h => h) (y_conv (by kernel_rfl) _ rfl (.slice (some ⟨gI, 0, none⟩) (n + 3) cI) (.string SI) rfl (fun w' hs => (HF.out w' hs).1)) hS ?_
  try simp only [Act.put, List.setIfInBounds_toArray, List.set_cons_zero, List.set_cons_succ]
  refine wpAnyH_take (i := 17) (v := (.slice a n c)) (by simp only [List.getElem?_toArray, List.getElem?_cons_zero, List.getElem?_cons_succ]; rfl) (by kernel_rfl) (by kernel_rfl) (by kernel_rfl) (by exact fun _ _ _ h => h) (y_move (by kernel_rfl) _ rfl _ rfl) hS ?_
  try simp only [Act.put, List.setIfInBounds_toArray, List.set_cons_zero, List.set_cons_succ]
  refine wpAnyH_ready (rs := [16, 19]) (by kernel_rfl) (by simp) ?_
  refine (AllReadyH.cons (by simp only [List.getElem?_toArray, List.getElem?_cons_zero, List.getElem?_cons_succ]; rfl) (fun K hK => ?_) (AllReadyH.cons (by simp only [List.getElem?_toArray, List.getElem?_cons_zero, List.getElem?_cons_succ]; rfl) (fun K hK => ?_) AllReadyH.nil))
  · refine r_build0 rfl (by kernel_rfl) ?_
    refine hK.out _ _ (hS.trans (Turn.alloc (F := fun _ => False) _ _) (fun _ h => h.elim)) (fun hS => ?_)
    have HO16 : Hid ((w18.alloc (.cells #[] 5)).ownsRow w12.heap.size 5 1 (.slice (some ⟨w18.heap.size, 0, none⟩) 0 0) 0 []) := own_lit0 _ _ HT18.out.size
    clear hK K
    try simp only [Act.put, List.setIfInBounds_toArray, List.set_cons_zero, List.set_cons_succ]
    refine wpAnyH_ready (rs := [18, 19]) (by kernel_rfl) (by simp) ?_
    refine (AllReadyH.cons (by simp only [List.getElem?_toArray, List.getElem?_cons_zero, List.getElem?_cons_succ]; rfl) (fun K hK => ?_) (AllReadyH.cons (by simp only [List.getElem?_toArray, List.getElem?_cons_zero, List.getElem?_cons_succ]; rfl) (fun K hK => ?_) AllReadyH.nil))
    · refine step_append_bytes' (by kernel_rfl) _ _ rfl w12.heap.size _ 0 [] rfl HO16.out a b off n c _ rfl (HF.out _ hS).2.1 HNIL.out (by omega) hS.size ?_
      intro v18 wx own18 gr18
      refine hK.out _ _ (hS.trans (Turn.of_grown (F := fun i => w12.heap.size ≤ i) gr18 (fun g hg => (HO16.out.lt g hg).1)) (fun _ h => Or.inr h)) (fun hS => ?_)
      have HO18 : Hid (wx.ownsRow w12.heap.size 5 1 v18 n (bv s)) := own_b HN.out.1 own18
      clear own18 gr18
      clear hK K
      try simp only [Act.put, List.setIfInBounds_toArray, List.set_cons_zero, List.set_cons_succ]
      refine wpAnyH_ready (rs := [19]) (by kernel_rfl) (by simp) ?_
      refine (AllReadyH.cons (by simp only [List.getElem?_toArray, List.getElem?_cons_zero, List.getElem?_cons_succ]; rfl) (fun K hK => ?_) AllReadyH.nil)
      refine r_build123 rfl (by kernel_rfl) ?_
      refine hK.out _ _ (hS.trans (Turn.alloc (F := fun _ => False) _ _) (fun _ h => h.elim)) (fun hS => ?_)
      have HW19 : Hid (View (wx.alloc (.cells #[.int .u8 1, .int .u8 2, .int .u8 3] 5)) (some ⟨wx.heap.size, 0, none⟩) wx.heap.size 0 3 (fun i => ((gd [1, 2, 3] i : Nat) : Int))) := view123 _
      have HO19 : Hid ((wx.alloc (.cells #[.int .u8 1, .int .u8 2, .int .u8 3] 5)).ownsRow w12.heap.size 5 1 v18 n (bv s)) := HO18.out.alloc (.cells #[.int .u8 1, .int .u8 2, .int .u8 3] 5)
      clear hK K
      try simp only [Act.put, List.setIfInBounds_toArray, List.set_cons_zero, List.set_cons_succ]
      refine wpAnyH_ready (rs := [20]) (by kernel_rfl) (by simp) ?_
      refine (AllReadyH.cons (by simp only [List.getElem?_toArray, List.getElem?_cons_zero, List.getElem?_cons_succ]; rfl) (fun K hK => ?_) AllReadyH.nil)
      refine step_append_bytes' (by kernel_rfl) _ _ rfl w12.heap.size v18 n (bv s) rfl HO19.out (some ⟨wx.heap.size, 0, none⟩) wx.heap.size 0 3 3 _ rfl HW19.out (fun h => by cases h) (by omega) hS.size ?_
      intro v20 wy own20 gr20
      refine hK.out _ _ (hS.trans (Turn.of_grown (F := fun i => w12.heap.size ≤ i) gr20 (fun g hg => (HO19.out.lt g hg).1)) (fun _ h => Or.inr h)) (fun hS => ?_)
      have HC20 : Hid _ := HSI.out _ _ _ (own_b3 own20)
      clear own20 gr20
      clear hK K
      try simp only [Act.put, List.setIfInBounds_toArray, List.set_cons_zero, List.set_cons_succ]
      refine wpAnyH_ready (rs := [21]) (by kernel_rfl) (by simp) ?_
      refine AllReadyH.cons (by simp only [List.getElem?_toArray, List.getElem?_cons_zero, List.getElem?_cons_succ]; rfl) (fun K hK => ?_) AllReadyH.nil
      refine r_conv _ rfl (by kernel_rfl) _ _ rfl HC20.out ?_
      refine hK.out _ _ hS (fun hS => ?_)
      clear hK K
      try simp only [Act.put, List.setIfInBounds_toArray, List.set_cons_zero, List.set_cons_succ]
      refine wpAnyH_take (i := 22) (v := (.bool true)) (by simp only [List.getElem?_toArray, List.getElem?_cons_zero, List.getElem?_cons_succ]; rfl) (by kernel_rfl) (by kernel_rfl) (by kernel_rfl) (by exact fun _ _ _ h => h) (y_eqlS (by kernel_rfl) _ _ rfl _ rfl rfl) hS ?_
      try simp only [Act.put, List.setIfInBounds_toArray, List.set_cons_zero, List.set_cons_succ]
      refine wpAnyH_take (i := 23) (v := (.bool true)) (by simp only [List.getElem?_toArray, List.getElem?_cons_zero, List.getElem?_cons_succ]; rfl) (by kernel_rfl) (by kernel_rfl) (by kernel_rfl) (by exact fun _ _ _ h => h) (y_pick_t (by kernel_rfl) _ _ _ rfl _ rfl rfl) hS ?_
      try simp only [Act.put, List.setIfInBounds_toArray, List.set_cons_zero, List.set_cons_succ]
      refine wpAnyH_take (i := 24) (v := (.bool true)) (by simp only [List.getElem?_toArray, List.getElem?_cons_zero, List.getElem?_cons_succ]; rfl) (by kernel_rfl) (by kernel_rfl) (by kernel_rfl) (by exact fun _ _ _ h => h) (y_assign (by kernel_rfl) _ rfl _ rfl) hS ?_
      try simp only [Act.put, List.setIfInBounds_toArray, List.set_cons_zero, List.set_cons_succ]
      refine wpAnyH_done (by kernel_rfl) ?_ _
      have HZZ : Hid (Below w.heap.size w wy) := ch HA.out.2.1 (ch HI4.out.1 ((ch H6.out.2 H12.out.2).trans (hS.below HG.out (Nat.le_trans HSZ.out.2.2.1 (by have := HSZ.out; omega)))))
      clear hS
      go_wp2_with fail
      go_ret
      exact ⟨rfl, HZZ.out⟩
    · refine r_build123 rfl (by kernel_rfl) ?_
      refine hK.out _ _ (hS.trans (Turn.alloc (F := fun _ => False) _ _) (fun _ h => h.elim)) (fun hS => ?_)
      have HW19 : Hid (View ((w18.alloc (.cells #[] 5)).alloc (.cells #[.int .u8 1, .int .u8 2, .int .u8 3] 5)) (some ⟨(w18.alloc (.cells #[] 5)).heap.size, 0, none⟩) (w18.alloc (.cells #[] 5)).heap.size 0 3 (fun i => ((gd [1, 2, 3] i : Nat) : Int))) := view123 _
      have HO19 : Hid (((w18.alloc (.cells #[] 5)).alloc (.cells #[.int .u8 1, .int .u8 2, .int .u8 3] 5)).ownsRow w12.heap.size 5 1 (.slice (some ⟨w18.heap.size, 0, none⟩) 0 0) 0 []) := HO16.out.alloc (.cells #[.int .u8 1, .int .u8 2, .int .u8 3] 5)
      clear hK K
      try simp only [Act.put, List.setIfInBounds_toArray, List.set_cons_zero, List.set_cons_succ]
      refine wpAnyH_ready (rs := [18]) (by kernel_rfl) (by simp) ?_
      refine (AllReadyH.cons (by simp only [List.getElem?_toArray, List.getElem?_cons_zero, List.getElem?_cons_succ]; rfl) (fun K hK => ?_) AllReadyH.nil)
      refine step_append_bytes' (by kernel_rfl) _ _ rfl w12.heap.size _ 0 [] rfl HO19.out a b off n c _ rfl (HF.out _ hS).2.1 HNIL.out (by omega) hS.size ?_
      intro v18 wx own18 gr18
      refine hK.out _ _ (hS.trans (Turn.of_grown (F := fun i => w12.heap.size ≤ i) gr18 (fun g hg => (HO19.out.lt g hg).1)) (fun _ h => Or.inr h)) (fun hS => ?_)
      have HO18 : Hid (wx.ownsRow w12.heap.size 5 1 v18 n (bv s)) := own_b HN.out.1 own18
      have HW18 : Hid (View wx (some ⟨(w18.alloc (.cells #[] 5)).heap.size, 0, none⟩) (w18.alloc (.cells #[] 5)).heap.size 0 3 (fun i => ((gd [1, 2, 3] i : Nat) : Int))) := HW19.out.turn (Turn.of_grown (F := fun i => i = w18.heap.size) gr18 (fun g hg => (Option.some.inj hg).symm)) (fun _ h => by simp at h)
      clear own18 gr18
      clear hK K
      try simp only [Act.put, List.setIfInBounds_toArray, List.set_cons_zero, List.set_cons_succ]
      refine wpAnyH_ready (rs := [20]) (by kernel_rfl) (by simp) ?_
      refine (AllReadyH.cons (by simp only [List.getElem?_toArray, List.getElem?_cons_zero, List.getElem?_cons_succ]; rfl) (fun K hK => ?_) AllReadyH.nil)
      refine step_append_bytes' (by kernel_rfl) _ _ rfl w12.heap.size v18 n (bv s) rfl HO18.out (some ⟨(w18.alloc (.cells #[] 5)).heap.size, 0, none⟩) (w18.alloc (.cells #[] 5)).heap.size 0 3 3 _ rfl HW18.out (fun h => by cases h) (by omega) hS.size ?_
      intro v20 wy own20 gr20
      refine hK.out _ _ (hS.trans (Turn.of_grown (F := fun i => w12.heap.size ≤ i) gr20 (fun g hg => (HO18.out.lt g hg).1)) (fun _ h => Or.inr h)) (fun hS => ?_)
      have HC20 : Hid _ := HSI.out _ _ _ (own_b3 own20)
      clear own20 gr20
      clear hK K
      try simp only [Act.put, List.setIfInBounds_toArray, List.set_cons_zero, List.set_cons_succ]
      refine wpAnyH_ready (rs := [21]) (by kernel_rfl) (by simp) ?_
      refine AllReadyH.cons (by simp only [List.getElem?_toArray, List.getElem?_cons_zero, List.getElem?_cons_succ]; rfl) (fun K hK => ?_) AllReadyH.nil
      refine r_conv _ rfl (by kernel_rfl) _ _ rfl HC20.out ?_
      refine hK.out _ _ hS (fun hS => ?_)
      clear hK K
      try simp only [Act.put, List.setIfInBounds_toArray, List.set_cons_zero, List.set_cons_succ]
      refine wpAnyH_take (i := 22) (v := (.bool true)) (by simp only [List.getElem?_toArray, List.getElem?_cons_zero, List.getElem?_cons_succ]; rfl) (by kernel_rfl) (by kernel_rfl) (by kernel_rfl) (by exact fun _ _ _ h => h) (y_eqlS (by kernel_rfl) _ _ rfl _ rfl rfl) hS ?_
      try simp only [Act.put, List.setIfInBounds_toArray, List.set_cons_zero, List.set_cons_succ]
      refine wpAnyH_take (i := 23) (v := (.bool true)) (by simp only [List.getElem?_toArray, List.getElem?_cons_zero, List.getElem?_cons_succ]; rfl) (by kernel_rfl) (by kernel_rfl) (by kernel_rfl) (by exact fun _ _ _ h => h) (y_pick_t (by kernel_rfl) _ _ _ rfl _ rfl rfl) hS ?_
      try simp only [Act.put, List.setIfInBounds_toArray, List.set_cons_zero, List.set_cons_succ]
      refine wpAnyH_take (i := 24) (v := (.bool true)) (by simp only [List.getElem?_toArray, List.getElem?_cons_zero, List.getElem?_cons_succ]; rfl) (by kernel_rfl) (by kernel_rfl) (by kernel_rfl) (by exact fun _ _ _ h => h) (y_assign (by kernel_rfl) _ rfl _ rfl) hS ?_
      try simp only [Act.put, List.setIfInBounds_toArray, List.set_cons_zero, List.set_cons_succ]
      refine wpAnyH_done (by kernel_rfl) ?_ _
      have HZZ : Hid (Below w.heap.size w wy) := ch HA.out.2.1 (ch HI4.out.1 ((ch H6.out.2 H12.out.2).trans (hS.below HG.out (Nat.le_trans HSZ.out.2.2.1 (by have := HSZ.out; omega)))))
      clear hS
      go_wp2_with fail
      go_ret
      exact ⟨rfl, HZZ.out⟩
  · refine r_build123 rfl (by kernel_rfl) ?_
    refine hK.out _ _ (hS.trans (Turn.alloc (F := fun _ => False) _ _) (fun _ h => h.elim)) (fun hS => ?_)
    have HW19 : Hid (View (w18.alloc (.cells #[.int .u8 1, .int .u8 2, .int .u8 3] 5)) (some ⟨w18.heap.size, 0, none⟩) w18.heap.size 0 3 (fun i => ((gd [1, 2, 3] i : Nat) : Int))) := view123 _
    clear hK K
    try simp only [Act.put, List.setIfInBounds_toArray, List.set_cons_zero, List.set_cons_succ]
    refine wpAnyH_ready (rs := [16]) (by kernel_rfl) (by simp) ?_
    refine (AllReadyH.cons (by simp only [List.getElem?_toArray, List.getElem?_cons_zero, List.getElem?_cons_succ]; rfl) (fun K hK => ?_) AllReadyH.nil)
    refine r_build0 rfl (by kernel_rfl) ?_
    refine hK.out _ _ (hS.trans (Turn.alloc (F := fun _ => False) _ _) (fun _ h => h.elim)) (fun hS => ?_)
    have HO16 : Hid (((w18.alloc (.cells #[.int .u8 1, .int .u8 2, .int .u8 3] 5)).alloc (.cells #[] 5)).ownsRow w12.heap.size 5 1 (.slice (some ⟨(w18.alloc (.cells #[.int .u8 1, .int .u8 2, .int .u8 3] 5)).heap.size, 0, none⟩) 0 0) 0 []) := own_lit0 _ _ (Nat.le_trans HT18.out.size (below_alloc _ _).size)
    have HW16 : Hid (View ((w18.alloc (.cells #[.int .u8 1, .int .u8 2, .int .u8 3] 5)).alloc (.cells #[] 5)) (some ⟨w18.heap.size, 0, none⟩) w18.heap.size 0 3 (fun i => ((gd [1, 2, 3] i : Nat) : Int))) := HW19.out.below (below_alloc _ _)
    clear hK K
    try simp only [Act.put, List.setIfInBounds_toArray, List.set_cons_zero, List.set_cons_succ]
    refine wpAnyH_ready (rs := [18]) (by kernel_rfl) (by simp) ?_
    refine (AllReadyH.cons (by simp only [List.getElem?_toArray, List.getElem?_cons_zero, List.getElem?_cons_succ]; rfl) (fun K hK => ?_) AllReadyH.nil)
    refine step_append_bytes' (by kernel_rfl) _ _ rfl w12.heap.size _ 0 [] rfl HO16.out a b off n c _ rfl (HF.out _ hS).2.1 HNIL.out (by omega) hS.size ?_
    intro v18 wx own18 gr18
    refine hK.out _ _ (hS.trans (Turn.of_grown (F := fun i => w12.heap.size ≤ i) gr18 (fun g hg => (HO16.out.lt g hg).1)) (fun _ h => Or.inr h)) (fun hS => ?_)
    have HO18 : Hid (wx.ownsRow w12.heap.size 5 1 v18 n (bv s)) := own_b HN.out.1 own18
    have HW18 : Hid (View wx (some ⟨w18.heap.size, 0, none⟩) w18.heap.size 0 3 (fun i => ((gd [1, 2, 3] i : Nat) : Int))) := HW16.out.turn (Turn.of_grown (F := fun i => i = (w18.alloc (.cells #[.int .u8 1, .int .u8 2, .int .u8 3] 5)).heap.size) gr18 (fun g hg => (Option.some.inj hg).symm)) (fun _ h => by simp at h)
    clear own18 gr18
    clear hK K
    try simp only [Act.put, List.setIfInBounds_toArray, List.set_cons_zero, List.set_cons_succ]
    refine wpAnyH_ready (rs := [20]) (by kernel_rfl) (by simp) ?_
    refine (AllReadyH.cons (by simp only [List.getElem?_toArray, List.getElem?_cons_zero, List.getElem?_cons_succ]; rfl) (fun K hK => ?_) AllReadyH.nil)
    refine step_append_bytes' (by kernel_rfl) _ _ rfl w12.heap.size v18 n (bv s) rfl HO18.out (some ⟨w18.heap.size, 0, none⟩) w18.heap.size 0 3 3 _ rfl HW18.out (fun h => by cases h) (by omega) hS.size ?_
    intro v20 wy own20 gr20
    refine hK.out _ _ (hS.trans (Turn.of_grown (F := fun i => w12.heap.size ≤ i) gr20 (fun g hg => (HO18.out.lt g hg).1)) (fun _ h => Or.inr h)) (fun hS => ?_)
    have HC20 : Hid _ := HSI.out _ _ _ (own_b3 own20)
    clear own20 gr20
    clear hK K
    try simp only [Act.put, List.setIfInBounds_toArray, List.set_cons_zero, List.set_cons_succ]
    refine wpAnyH_ready (rs := [21]) (by kernel_rfl) (by simp) ?_
    refine AllReadyH.cons (by simp only [List.getElem?_toArray, List.getElem?_cons_zero, List.getElem?_cons_succ]; rfl) (fun K hK => ?_) AllReadyH.nil
    refine r_conv _ rfl (by kernel_rfl) _ _ rfl HC20.out ?_
    refine hK.out _ _ hS (fun hS => ?_)
    clear hK K
    try simp only [Act.put, List.setIfInBounds_toArray, List.set_cons_zero, List.set_cons_succ]
    refine wpAnyH_take (i := 22) (v := (.bool true)) (by simp only [List.getElem?_toArray, List.getElem?_cons_zero, List.getElem?_cons_succ]; rfl) (by kernel_rfl) (by kernel_rfl) (by kernel_rfl) (by exact fun _ _ _ h => h) (y_eqlS (by kernel_rfl) _ _ rfl _ rfl rfl) hS ?_
    try simp only [Act.put, List.setIfInBounds_toArray, List.set_cons_zero, List.set_cons_succ]
    refine wpAnyH_take (i := 23) (v := (.bool true)) (by simp only [List.getElem?_toArray, List.getElem?_cons_zero, List.getElem?_cons_succ]; rfl) (by kernel_rfl) (by kernel_rfl) (by kernel_rfl) (by exact fun _ _ _ h => h) (y_pick_t (by kernel_rfl) _ _ _ rfl _ rfl rfl) hS ?_
    try simp only [Act.put, List.setIfInBounds_toArray, List.set_cons_zero, List.set_cons_succ]
    refine wpAnyH_take (i := 24) (v := (.bool true)) (by simp only [List.getElem?_toArray, List.getElem?_cons_zero, List.getElem?_cons_succ]; rfl) (by kernel_rfl) (by kernel_rfl) (by kernel_rfl) (by exact fun _ _ _ h => h) (y_assign (by kernel_rfl) _ rfl _ rfl) hS ?_
    try simp only [Act.put, List.setIfInBounds_toArray, List.set_cons_zero, List.set_cons_succ]
    refine wpAnyH_done (by kernel_rfl) ?_ _
    have HZZ : Hid (Below w.heap.size w wy) := ch HA.out.2.1 (ch HI4.out.1 ((ch H6.out.2 H12.out.2).trans (hS.below HG.out (Nat.le_trans HSZ.out.2.2.1 (by have := HSZ.out; omega)))))
    clear hS
    go_wp2_with fail
    go_ret
    exact ⟨rfl, HZZ.out⟩
end Go.Proofs.Ytlpmcdnhnhgmpaa
