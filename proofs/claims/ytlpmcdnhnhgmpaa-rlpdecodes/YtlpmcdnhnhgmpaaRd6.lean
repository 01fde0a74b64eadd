/-
  cairnref05: Split.
-/
import Derived.Test.YtlpmcdnhnhgmpaaRd5
namespace Go.Proofs.Ytlpmcdnhnhgmpaa
open Go.RowKit

/-- WHAT THE REFERENCE's Split ANSWERS -/
def RSpl (s : List Nat) (w : World) (r : Ending) (w' : World) : Prop :=
  ∃ v1 v2, r = .returned (.tuple #[v1, v2, .int .i64 (spE s)]) ∧ Str w' (fun i => w.heap.size ≤ i) v1 (sp1 s) ∧ Str w' (fun i => w.heap.size ≤ i) v2 (sp2 s) ∧ Below w.heap.size w w'
theorem own_lit0 (w : World) (B : Nat) (hB : B ≤ w.heap.size) : (w.alloc (.cells #[] 5)).ownsRow B 5 1 (.slice (some ⟨w.heap.size, 0, none⟩) 0 0) 0 [] := World.ownsRow_lit (base := B) (e := 5) (size := 1) w #[] 0 hB (by decide) rfl
theorem own_ne0 {w : World} {B B' n g0 : Nat} {v : Value} {xs ys : List Value} (h : w.ownsRow B 5 1 v n xs) (hn : 0 < n) (h0 : w.ownsRow B' 5 1 (.slice (some ⟨g0, 0, none⟩) 0 0) 0 ys) {g : Nat} (hg : v.ownBlock = some g) : g ≠ g0 := by
  intro e
  subst e
  rcases h.2 with ⟨_, q⟩ | ⟨g1, cap, cur, rfl, _, hb, hc, _, hs, _⟩
  · omega
  · have e1 : g1 = g := Option.some.inj hg
    subst e1
    rcases h0.2 with ⟨q, _⟩ | ⟨g2, cap2, cur2, e2, _, hb2, hc2, _, hs2, _⟩
    · cases q
    · injection e2 with e3 _ e4
      injection e3 with e3
      injection e3 with e3
      subst e3
      rw [hb] at hb2
      injection hb2 with hb2
      injection hb2 with hb2 _
      subst hb2
      omega
/-- two lists filled, one behind the other -/
structure Fil (W W' : World) (v1 v2 : Value) (s1 s2 : List Nat) : Prop where
  o1 : W'.ownsRow W.heap.size 5 1 v1 s1.length (bv s1)
  o2 : W'.ownsRow W.heap.size 5 1 v2 s2.length (bv s2)
  bl : Below W.heap.size W W'

set_option maxRecDepth 100000 in
set_option maxHeartbeats 3200000 in
theorem rsplit_any (w : World) (a : Option Addr) (b off c : Nat) (s : List Nat) (hv : Vw w a b off s) (hc : s.length ≤ c) :
    Calls Try.prog 16 #[.slice a s.length c] w (RSpl s w) := by
  have hl63 := hv.len
  by_cases hbig : 1048576 < s.length
  · have HD : Hid (spE s = 54 ∧ sp1 s = [] ∧ sp2 s = []) := by
      have hd : dec s = .bad 0 54 := by unfold dec; rw [if_pos hbig]
      have : spE s = 54 := by unfold spE; rw [hd]; rfl
      exact ⟨this, by unfold sp1; rw [this]; rfl, by unfold sp2; rw [this]; rfl⟩
    have i1 : (1048576 : Int) < (s.length : Int) := by omega
    generalize s.length = n at *
    clear hv hc
    go_enter Try.func16, Try.ntmps16
    go_wp2_with fail
    go_ret3
    exact ⟨_, _, by rw [HD.out.1]; rfl, by rw [HD.out.2.1]; exact str_nil _ _, by rw [HD.out.2.2]; exact str_nil _ _, Below.refl _ _⟩
  · have K := rread_all w a b off c s hv hc (by omega)
    have hdec : dec s = match rd s 80 0 s.length with
        | .bad p e => .bad p e
        | .ok x e => if e < s.length then .bad e 51 else .ok x := by unfold dec; rw [if_neg hbig]; rfl
    have hrb := fun q cd => rd_bad (s := s) 80 0 s.length q cd
    have hro := fun x z => rd_ok (s := s) (vw_ok hv).2 80 0 s.length x z (Nat.le_refl _) (Nat.zero_le _)
    unfold RPost at K
    obtain ⟨n, en⟩ : ∃ n, n = s.length := ⟨_, rfl⟩
    rw [← en] at K hdec hbig hl63 hrb hro ⊢
    have i1 : ¬ (1048576 : Int) < (n : Int) := by omega
    cases hrd : rd s 80 0 n with
    | bad q cd =>
      rw [hrd] at K hdec
      have hcd := hrb q cd hrd
      have HD : Hid (spE s = cd ∧ sp1 s = [] ∧ sp2 s = []) := by
        have : spE s = cd := by unfold spE; rw [hdec]; show (if cd = 51 then 0 else cd) = cd; rw [if_neg (by omega)]
        exact ⟨this, by unfold sp1; rw [this, if_neg (by omega)], by unfold sp2; rw [this, if_neg (by omega)]⟩
      have icd : ¬ (cd : Int) = 0 := by omega
      have icdb : ((cd : Int) == 0) = false := by simpa using icd
      clear hdec hrb hro hrd hv hc en
      go_enter Try.func16, Try.ntmps16
      go_wp2_with fail
      refine K.mono ?_
      rintro r w2 ⟨b2, rfl⟩
      obtain ⟨w3, ew3⟩ : ∃ w3, w3 = w2.alloc (.cells #[.bool false, .slice none 0 0, .slice none 0 0, .int .i64 0, .int .i64 (q : Nat), .int .i64 (cd : Nat)] 75) := ⟨_, rfl⟩
      have r3 : B6 w3 w2.heap.size (.bool false) (.slice none 0 0) (.slice none 0 0) (.int .i64 0) (.int .i64 (q : Nat)) (.int .i64 (cd : Nat)) := by rw [ew3]; exact heap_alloc_new _ _
      have HZ : Hid (w3 = w2.alloc (.cells #[.bool false, .slice none 0 0, .slice none 0 0, .int .i64 0, .int .i64 (q : Nat), .int .i64 (cd : Nat)] 75) ∧ Below w.heap.size w w3 ∧ B6 w3 w2.heap.size (.bool false) (.slice none 0 0) (.slice none 0 0) (.int .i64 0) (.int .i64 (q : Nat)) (.int .i64 (cd : Nat))) := ⟨ew3, ch b2 (by rw [ew3]; exact below_alloc _ _), r3⟩
      clear K b2 ew3 r3
      go_wp2_with fail
      rw [← HZ.out.1]
      have HSS : Hid (∀ w', Below w3.heap.size w3 w' → w'.cell? ⟨w2.heap.size, 5, none⟩ = some (.int .i64 (cd : Nat))) := fun w' k => by
        have r := HZ.out.2.2.keep (k.block _ HZ.out.2.2.lt)
        exact r.cell 5
      go_region_held3 (fun w' => w'.cell? ⟨w2.heap.size, 5, none⟩ = some (.int .i64 (cd : Nat)))
        (first | (exact HSS.out _ (Below.drew (Below.refl _ _))))
        (fail)
      go_wp2_with fail
      go_ret3
      exact ⟨_, _, by rw [HD.out.1]; rfl, by rw [HD.out.2.1]; exact str_nil _ _, by rw [HD.out.2.2]; exact str_nil _ _, Below.drew HZ.out.2.1⟩
    | ok x z =>
      rw [hrd] at K hdec
      have hz := hro x z hrd
      have hzn : z ≤ n := hz.2.1
      have hz0 : 0 < z := hz.1
      have HD : Hid (spE s = 0 ∧ sp1 s = s.take z ∧ sp2 s = s.drop z) := by
        dsimp only at hdec
        have h1 : spE s = 0 ∧ spEnd s = z := by
          unfold spE spEnd
          rw [hdec]
          by_cases hlt : z < n
          · rw [if_pos hlt]; exact ⟨rfl, rfl⟩
          · rw [if_neg hlt]; exact ⟨rfl, by show s.length = z; omega⟩
        exact ⟨h1.1, by unfold sp1; rw [h1.1, if_pos rfl, h1.2], by unfold sp2; rw [h1.1, if_pos rfl, h1.2]⟩
      obtain rfl := hv.at_ (by omega)
      have j1 := slice_upto (some ⟨b, off, none⟩) n c z (by omega)
      have j2 := slice_from (some ⟨b, off, none⟩) n c z hzn
      obtain ⟨pp, epp⟩ := behind_some ⟨b, off, none⟩ c z
      have hV1 := take_view hv (K := z) (by omega)
      have hV2 := drop_view (c := c) hv (K := z) (by omega) hc
      rw [epp] at hV2 j2
      have l1 : (s.take z).length = z := by simp; omega
      have l2 : (s.drop z).length = n - z := by simp; omega
      unfold Vw at hV1 hV2
      rw [l1] at hV1
      rw [l2] at hV2
      have HV : Hid (∀ w', Below w.heap.size w w' → View w' (some ⟨b, off, none⟩) b off z (fun i => ((gd (s.take z) i : Nat) : Int)) ∧ View w' (some pp) b (off + z) (n - z) (fun i => ((gd (s.drop z) i : Nat) : Int))) := fun w' k => ⟨hV1.below k, hV2.below k⟩
      have HOK : Hid ((∀ x ∈ s.take z, x < 256) ∧ (∀ x ∈ s.drop z, x < 256) ∧ (s.take z).length = z ∧ (s.drop z).length = n - z) := ⟨fun x hx => (vw_ok hv).2 x (List.mem_of_mem_take hx), fun x hx => (vw_ok hv).2 x (List.mem_of_mem_drop hx), l1, l2⟩
      clear hdec hrb hro hrd hv hc en hz hV1 hV2 l1 l2 epp
      go_enter Try.func16, Try.ntmps16
      go_wp2_with fail
      refine K.mono ?_
      rintro r w2 ⟨b2, vb2, vi2, rfl, o2⟩
      obtain ⟨a1, n1, q1, a2, n2, q2, rfl, rfl⟩ := o2.lies.form
      obtain ⟨W, eW⟩ : ∃ W, W = w2.alloc (.cells #[.bool x.l, .slice a1 n1 q1, .slice a2 n2 q2, .int .i64 (z : Nat), .int .i64 0, .int .i64 0] 75) := ⟨_, rfl⟩
      have r3 : B6 W w2.heap.size (.bool x.l) (.slice a1 n1 q1) (.slice a2 n2 q2) (.int .i64 (z : Nat)) (.int .i64 0) (.int .i64 0) := by rw [eW]; exact heap_alloc_new _ _
      have HZ : Hid (W = w2.alloc (.cells #[.bool x.l, .slice a1 n1 q1, .slice a2 n2 q2, .int .i64 (z : Nat), .int .i64 0, .int .i64 0] 75) ∧ Below w.heap.size w W ∧ B6 W w2.heap.size (.bool x.l) (.slice a1 n1 q1) (.slice a2 n2 q2) (.int .i64 (z : Nat)) (.int .i64 0) (.int .i64 0)) := ⟨eW, ch b2 (by rw [eW]; exact below_alloc _ _), r3⟩
      clear K b2 eW r3 o2
      go_wp2_with fail
      rw [← HZ.out.1]
      have HSS : Hid (∀ w', Below W.heap.size W w' → w'.cell? ⟨w2.heap.size, 3, none⟩ = some (.int .i64 (z : Nat))) := fun w' k => by
        have r := HZ.out.2.2.keep (k.block _ HZ.out.2.2.lt)
        exact r.cell 3
      have O1 : Hid ((W.alloc (.cells #[] 5)).drew.ownsRow W.heap.size 5 1 (.slice (some ⟨W.heap.size, 0, none⟩) 0 0) 0 []) := own_lit0 W _ (Nat.le_refl _)
      have O2 : Hid (((W.alloc (.cells #[] 5)).alloc (.cells #[] 5)).drew.ownsRow W.heap.size 5 1 (.slice (some ⟨W.heap.size, 0, none⟩) 0 0) 0 []) := (own_lit0 W _ (Nat.le_refl _)).alloc _
      have O3 : Hid (((W.alloc (.cells #[] 5)).alloc (.cells #[] 5)).drew.ownsRow W.heap.size 5 1 (.slice (some ⟨W.heap.size + 1, 0, none⟩) 0 0) 0 []) := by
        have := own_lit0 (W.alloc (.cells #[] 5)) W.heap.size (by simp)
        simp only [World.size_alloc] at this
        exact this
      have B1 : Hid (Below W.heap.size W (W.alloc (.cells #[] 5)).drew) := (below_alloc _ _).drew
      have B2 : Hid (Below W.heap.size W ((W.alloc (.cells #[] 5)).alloc (.cells #[] 5)).drew) := (ch (below_alloc _ _) (below_alloc _ _)).drew
      have HVW : Hid (∀ w', Below W.heap.size W w' → View w' (some ⟨b, off, none⟩) b off z (fun i => ((gd (s.take z) i : Nat) : Int)) ∧ View w' (some pp) b (off + z) (n - z) (fun i => ((gd (s.drop z) i : Nat) : Int))) := fun w' k => HV.out w' (ch HZ.out.2.1 k)
      have HF : Hid (∀ w4 v1 v2, Fil W w4 v1 v2 (s.take z) (s.drop z) → RSpl s w (.returned (.tuple #[v1, v2, .int .i64 0])) w4) := fun w4 v1 v2 h => by
        have z1 := HZ.out.2.1.size
        refine ⟨v1, v2, by rw [HD.out.1]; rfl, ?_, ?_, ch HZ.out.2.1 h.bl⟩
        · rw [HD.out.2.1]
          exact ⟨own_base h.o1, fun g hg => by have := (h.o1.lt g hg).1; omega, ⟨by rw [HOK.out.2.2.1]; omega, HOK.out.1⟩⟩
        · rw [HD.out.2.2]
          exact ⟨own_base h.o2, fun g hg => by have := (h.o2.lt g hg).1; omega, ⟨by rw [HOK.out.2.2.2]; omega, HOK.out.2.1⟩⟩
      go_region_held3 (fun w' => w'.cell? ⟨w2.heap.size, 3, none⟩ = some (.int .i64 (z : Nat)))
        (first | (exact HSS.out _ (by assumption)) | (exact HSS.out _ (Below.drew (Below.refl _ _))) | (exact HSS.out _ B1.out) | (exact HSS.out _ B2.out) | (exact HSS.out _ (ch (by assumption) (below_alloc _ _))))
        (first
          | (refine step_append_bytes (by rfl) (.tmp 18) (.tmp 22) (by rfl) W.heap.size _ 0 [] (by rfl) O1.out (some ⟨b, off, none⟩) b off z c _ (by rfl) (HVW.out _ B1.out).1 (fun h => by cases h) (by omega) B1.out.size ?_; intro v1 w1 own1 gr1 nn1; have bb1 : Below W.heap.size W w1 := B1.out.trans (grown_below gr1 O1.out (Nat.le_refl _) B1.out.size); have OE : (w1.alloc (.cells #[] 5)).ownsRow W.heap.size 5 1 (.slice (some ⟨w1.heap.size, 0, none⟩) 0 0) 0 [] := own_lit0 w1 _ bb1.size; have VE := (HVW.out _ (ch bb1 (below_alloc w1 (.cells #[] 5)))).2; have BE : Below W.heap.size W (w1.alloc (.cells #[] 5)) := ch bb1 (below_alloc w1 (.cells #[] 5)); have OF : (w1.alloc (.cells #[] 5)).ownsRow W.heap.size 5 1 v1 (0 + z) ([] ++ vals (fun i => ((gd (s.take z) i : Nat) : Int)) z) := own1.alloc _)
          | (refine step_append_bytes (by rfl) (.tmp 18) (.tmp 22) (by rfl) W.heap.size (.slice (some ⟨W.heap.size, 0, none⟩) 0 0) 0 [] (by rfl) O2.out (some ⟨b, off, none⟩) b off z c _ (by rfl) (HVW.out _ B2.out).1 (fun h => by cases h) (by omega) B2.out.size ?_; intro v1 w1 own1 gr1 nn1; have bb1 : Below W.heap.size W w1 := B2.out.trans (grown_below gr1 O2.out (Nat.le_refl _) B2.out.size); have OE : w1.ownsRow W.heap.size 5 1 (.slice (some ⟨W.heap.size + 1, 0, none⟩) 0 0) 0 [] := own_same O3.out (fun g hg => gr1.block g (O3.out.lt g hg).2 (fun e => by (have h1 : W.heap.size + 1 = g := Option.some.inj hg); (have h2 : some g = some W.heap.size := e); (have h2 := Option.some.inj h2); omega)); have VE := (HVW.out _ bb1).2; have BE := bb1; have OF := own1)
          | (refine step_append_bytes (by rfl) (.tmp 18) (.tmp 22) (by rfl) W.heap.size (.slice (some ⟨W.heap.size + 1, 0, none⟩) 0 0) 0 [] (by rfl) O3.out (some ⟨b, off, none⟩) b off z c _ (by rfl) (HVW.out _ B2.out).1 (fun h => by cases h) (by omega) B2.out.size ?_; intro v1 w1 own1 gr1 nn1; have bb1 : Below W.heap.size W w1 := B2.out.trans (grown_below gr1 O3.out (Nat.le_refl _) B2.out.size); have OE : w1.ownsRow W.heap.size 5 1 (.slice (some ⟨W.heap.size, 0, none⟩) 0 0) 0 [] := own_same O2.out (fun g hg => gr1.block g (O2.out.lt g hg).2 (fun e => by (have h1 : W.heap.size = g := Option.some.inj hg); (have h2 : some g = some (W.heap.size + 1) := e); (have h2 := Option.some.inj h2); omega)); have VE := (HVW.out _ bb1).2; have BE := bb1; have OF := own1)
          | (refine step_append_bytes (by rfl) (.tmp 24) (.tmp 28) (by rfl) W.heap.size _ 0 [] (by rfl) OE (some pp) b (off + z) (n - z) (c - z) _ (by rfl) VE (fun h => by cases h) (by omega) BE.size ?_; intro v2 w4 own2 gr2 nn2; have bb2 : Below W.heap.size W w4 := BE.trans (grown_below gr2 OE (Nat.le_refl _) BE.size)))
      all_goals
        have o1 := own_same OF (fun g hg => gr2.block g (OF.lt g hg).2 (fun e => own_ne0 OF (by omega) OE hg (Option.some.inj e)))
        have HY : Hid (Fil W w4 v1 v2 (s.take z) (s.drop z)) := ⟨by
          rw [HOK.out.2.2.1, ← vals_bv (s.take z), HOK.out.2.2.1]
          simpa using o1, by
          rw [HOK.out.2.2.2, ← vals_bv (s.drop z), HOK.out.2.2.2]
          simpa using own2, bb2⟩
        clear o1 own2 gr2 nn2 bb2 OF BE VE OE bb1 nn1 gr1 own1
        go_wp2_with fail
        go_ret3
        exact HF.out _ _ _ HY.out
end Go.Proofs.Ytlpmcdnhnhgmpaa
