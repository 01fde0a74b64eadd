/-
  cairnref09.Scan.
-/
import Derived.Test.YtnknhjabebcmeaaGl
namespace Go.Proofs.Ytnknhjabebcmeaa
open Go.RowKit

set_option maxRecDepth 100000 in
set_option maxHeartbeats 3200000 in
theorem rscan_any (w : World) (a : Option Addr) (b off c : Nat) (s : List Nat) (hv : Vw w a b off s) (hc : s.length ≤ c) (hl : s.length ≤ 4194304) :
    Calls Try.prog 19 #[.slice a s.length c] w fun e w' => ∃ v ve, e = .returned (.tuple #[v, ve, .int .i64 ((scE s : Nat) : Int)]) ∧ (∃ Us, Gl w' w.heap.size v Us (scP s)) ∧ Gi w' w.heap.size ve (edF 0 (scP s)) ∧ Below w.heap.size w w' := by
  have HV : Hid (Vw w a b off s) := hv
  clear hv
  obtain ⟨n, en⟩ : ∃ n, n = s.length := ⟨_, rfl⟩
  have HN : Hid (n = s.length) := en
  rw [← en] at hc hl ⊢
  clear en
  obtain ⟨iB, hiB, hzB0, hzB1, hzB2⟩ := info_parts infoB
  have HIB : Hid (Try.prog.info? 23 = some iB ∧ iB.zero = some nilS ∧ iB.size = 1 ∧ iB.bytes = 24) := ⟨hiB, hzB0, hzB1, hzB2⟩
  obtain ⟨iI, hiI, hzI0, hzI1, hzI2⟩ := info_parts info3
  have HII : Hid (Try.prog.info? 3 = some iI ∧ iI.zero = some (.int .i64 0) ∧ iI.size = 1 ∧ iI.bytes = 8) := ⟨hiI, hzI0, hzI1, hzI2⟩
  clear hiB hzB0 hzB1 hzB2 hiI hzI0 hzI1 hzI2
  go_enter Try.func19, Try.ntmps19
  go_wp2_with fail
  go_loopg [5, 6, 7] n (fun g v ve en wr => ∃ (at_ : Nat) (P : List (List Nat)) (Us : List Value), at_ ≤ n ∧ g = n - at_ ∧ en = .int .i64 at_ ∧ Gl wr w.heap.size v Us P ∧ Gi wr w.heap.size ve (edF 0 P) ∧ at_ = tot P ∧ 7 * P.length ≤ at_ ∧ scP s = P ++ scP (s.drop at_) ∧ scE s = scE (s.drop at_) ∧ Below w.heap.size w wr)
  case atStart => exact ⟨0, [], [], Nat.zero_le _, rfl, rfl, Gl.nil _ _, World.ownsRow_nil _ _ _ _, rfl, by simp, rfl, rfl, Below.refl _ _⟩
  case round =>
    obtain ⟨at_, P, Us, hat, rfl, rfl, hG, hI, htot, h7, hsP, hsE, hb⟩ := hrel
    have HP : Hid (at_ = tot P ∧ 7 * P.length ≤ at_ ∧ scP s = P ++ scP (s.drop at_) ∧ scE s = scE (s.drop at_)) := ⟨htot, h7, hsP, hsE⟩
    obtain ⟨av, cv, e1⟩ := own_slice hG.own
    obtain ⟨ae, ce, e2⟩ := own_slice hI
    subst e1
    subst e2
    have HG : Hid (Gl wr w.heap.size (.slice av P.length cv) Us P ∧ Gi wr w.heap.size (.slice ae (edF 0 P).length ce) (edF 0 P) ∧ Below w.heap.size w wr) := ⟨hG, hI, hb⟩
    clear hG hI htot hsP hsE hb
    have el : (edF 0 P).length = P.length := edF_len 0 P
    obtain ⟨k, ek⟩ : ∃ k, k = P.length := ⟨_, rfl⟩
    have HK : Hid (k = P.length ∧ (edF 0 P).length = P.length) := ⟨ek, el⟩
    rw [el] at HG ⊢
    rw [← ek] at HG h7 ⊢
    clear ek el
    by_cases han : at_ < n
    · have i1 : (at_ : Int) < (n : Int) := by omega
      obtain rfl := HV.out.at_ (by have := HN.out; omega)
      obtain ⟨z, hz⟩ : ∃ z, z = behind (some ⟨b, off, none⟩) c at_ := ⟨_, rfl⟩
      have hdl : (s.drop at_).length = n - at_ := by rw [List.length_drop, HN.out]
      have hdt : (s.drop at_).take (n - at_) = s.drop at_ := List.take_of_length_le (by rw [hdl]; exact Nat.le_refl _)
      have HZ : Hid (Vw wr z b (off + at_) (s.drop at_) ∧ (s.drop at_).length = n - at_) := by
        refine ⟨?_, hdl⟩
        have := (part_vw (HV.out.below HG.out.2.2) (c := c) (by have := HN.out; omega) at_ (n - at_) (by have := HN.out; omega)).1
        rw [hdt] at this
        rw [hz]
        exact this
      have j1 : ∀ u, (Instr.slice 23 (.slice (some ⟨b, off, none⟩) n c) (some (.int .i64 at_)) none none).run Try.prog u = .ok (.slice z (n - at_) (c - at_)) u := fun u => by
        rw [hz]
        exact slice_from (some ⟨b, off, none⟩) n c at_ (by omega) u
      clear hz hdl hdt
      have KF := rfirst_any wr z b (off + at_) (c - at_) (s.drop at_) HZ.out.1 (by rw [HZ.out.2]; omega) (by rw [HZ.out.2]; omega)
      rw [HZ.out.2] at KF
      have HKF : Hid (Calls Try.prog 18 #[.slice z (n - at_) (c - at_)] wr fun e w' => ∃ v, e = .returned (.tuple #[v, .int .i64 ((fN (s.drop at_) : Nat) : Int), .int .i64 ((fE (s.drop at_) : Nat) : Int)]) ∧ AnT wr w' v (fP (s.drop at_))) := KF
      clear KF
      have hfl : fN (s.drop at_) ≤ n - at_ := by rw [← HZ.out.2]; exact fN_le
      by_cases hE : fE (s.drop at_) = 0
      · obtain ⟨q1, q2⟩ := sc_next hE
        have q3 := fN_pos hE
        have HQ : Hid (scP (s.drop at_) = fP (s.drop at_) :: scP ((s.drop at_).drop (fN (s.drop at_))) ∧ scE (s.drop at_) = scE ((s.drop at_).drop (fN (s.drop at_))) ∧ fN (s.drop at_) = 7 + (fP (s.drop at_)).length) := ⟨q1, q2, by rw [fP_len hE]; unfold fN; rw [if_pos hE]⟩
        rw [hE] at HKF
        obtain ⟨m, hm⟩ : ∃ m, m = fN (s.drop at_) := ⟨_, rfl⟩
        have HM : Hid (m = fN (s.drop at_)) := hm
        rw [← hm] at HKF hfl q3
        clear q1 q2 hm hE
        go_wp2_with fail
        refine HKF.out.mono ?_
        rintro e w1 ⟨u, rfl, hA⟩
        obtain ⟨au, nu, cu, rfl⟩ := hA.formE
        have HA : Hid (AnT wr w1 (.slice au nu cu) (fP (s.drop at_)) ∧ Below w.heap.size w w1) := ⟨hA, HG.out.2.2.trans (hA.below.mono HG.out.2.2.size)⟩
        have HO1 : Hid (w1.ownsRow w.heap.size 23 1 (.slice av k cv) k Us) := by
          have := (HG.out.1.below hA.below).own
          rw [← HK.out.1] at this
          exact this
        clear hA
        have i2 : (0 : Int) ≤ (at_ : Int) + (m : Int) := by omega
        go_wp2_with (at_builtin; go_loud (refine wpList_append_lies _ (by rfl) _ _ 22 (by rfl) w.heap.size 23 iB nilS 1 24 Try.underlying22 HIB.out.1 HIB.out.2.1 HIB.out.2.2.1 HIB.out.2.2.2 (by rfl) (by decide) (.slice av k cv) k Us (by rfl) (HO1.out.alloc _) ⟨w1.heap.size, 0, none⟩ 1 1 [.slice au nu cu] (by rfl) (by rfl) (World.news_of_block (cs := #[.slice au nu cu]) (t := 23) (fr := (0, 0)) (heap_alloc_new _ _)) (by simp [Value.oneCell']) (by decide) (by unfold maxLen; omega) (by omega) (by have := HA.out.2.size; simp; omega) _ (by rfl) ?_))
        intro g9 cap9 w9 own9 gr9 at9 lt9
        have hP := HG.out.1.push HG.out.2.2.size HA.out.1 (v' := .slice (some ⟨g9, 0, none⟩) (k + 1) cap9) (by rw [← HK.out.1]; exact own9) gr9
        have B9 : Below w.heap.size w w9 := (HA.out.2.alloc HA.out.2.size _).grown gr9 (by simp; have := HA.out.2.size; omega) (fun j hj => (HO1.out.lt j hj).1)
        have hI9 : Gi w9 w.heap.size (.slice ae k ce) (edF 0 P) := by
          have h1 : Gi w1 w.heap.size (.slice ae k ce) (edF 0 P) := gi_below HG.out.2.1 HA.out.1.below
          have h2 : Gi (w1.alloc (.cells #[.slice au nu cu] 23)) w.heap.size (.slice ae k ce) (edF 0 P) := gi_below h1 ((Below.refl _ _).alloc (Nat.le_refl _) _)
          refine own_turn h2 (Turn.of_grown (F := fun i => (Value.slice av k cv).ownBlock = some i) gr9 (fun k e => e)) (fun g hg z => ?_)
          obtain ⟨cur, hc⟩ := own_block (HO1.out.alloc (.cells #[.slice au nu cu] 23)) z
          exact own_ne_cells h2 hc (by decide) hg
        have H9 : Hid (Gl w9 w.heap.size (.slice (some ⟨g9, 0, none⟩) (k + 1) cap9) (Us ++ [.slice au nu cu]) (P ++ [fP (s.drop at_)]) ∧ w9.ownsRow w.heap.size 3 1 (.slice ae k ce) k (iv (edF 0 P)) ∧ Below w.heap.size w w9) := ⟨hP, by
          have := hI9
          unfold Gi at this
          rw [HK.out.2, ← HK.out.1] at this
          exact this, B9⟩
        clear hP B9 hI9 own9 gr9 at9 lt9 HO1
        go_wp2_with (at_builtin; go_loud (refine wpList_append_lies _ (by rfl) _ _ 24 (by rfl) w.heap.size 3 iI (.int .i64 0) 1 8 Try.underlying24 HII.out.1 HII.out.2.1 HII.out.2.2.1 HII.out.2.2.2 (by rfl) (by decide) (.slice ae k ce) k (iv (edF 0 P)) (by rfl) (H9.out.2.1.alloc _) ⟨w9.heap.size, 0, none⟩ 1 1 [.int .i64 ((at_ : Int) + (m : Int))] (by rfl) (by rfl) (World.news_of_block (cs := #[.int .i64 ((at_ : Int) + (m : Int))]) (t := 3) (fr := (0, 0)) (heap_alloc_new _ _)) (by simp [Value.oneCell']) (by decide) (by unfold maxLen; omega) (by omega) (by have := H9.out.2.2.size; simp; omega) _ (by rfl) ?_))
        intro g8 cap8 w8 own8 gr8 at8 lt8
        have B8 : Below w.heap.size w w8 := (H9.out.2.2.alloc H9.out.2.2.size _).grown gr8 (by simp; have := H9.out.2.2.size; omega) (fun j hj => (H9.out.2.1.lt j hj).1)
        have hG8 : Gl w8 w.heap.size (.slice (some ⟨g9, 0, none⟩) (k + 1) cap9) (Us ++ [.slice au nu cu]) (P ++ [fP (s.drop at_)]) := by
          have h1 := H9.out.1.below ((Below.refl w9.heap.size w9).alloc (Nat.le_refl _) (.cells #[.int .i64 ((at_ : Int) + (m : Int))] 3))
          have t1 : Turn (fun i => (Value.slice ae k ce).ownBlock = some i) _ w8 := Turn.of_grown gr8 (fun k e => e)
          refine h1.turn t1 (fun g hg z => ?_) (fun u hu g hg z => ?_)
          · obtain ⟨cur, hc⟩ := own_block (H9.out.2.1.alloc (.cells #[.int .i64 ((at_ : Int) + (m : Int))] 3)) z
            exact own_ne_cells h1.own hc (by decide) hg
          · obtain ⟨cur, hc⟩ := own_block (H9.out.2.1.alloc (.cells #[.int .i64 ((at_ : Int) + (m : Int))] 3)) z
            obtain ⟨t, h2, _⟩ := h1.stw u hu
            exact h2.ne hc (by decide) hg
        have eP : edF 0 (P ++ [fP (s.drop at_)]) = edF 0 P ++ [at_ + m] := by
          rw [edF_app, HM.out, HQ.out.2.2, HP.out.1]
          simp [edF]
        have hI8 : Gi w8 w.heap.size (.slice (some ⟨g8, 0, none⟩) (k + 1) cap8) (edF 0 (P ++ [fP (s.drop at_)])) := by
          unfold Gi
          rw [eP, List.length_append, HK.out.2, ← HK.out.1]
          have e : iv (edF 0 P ++ [at_ + m]) = iv (edF 0 P) ++ [.int .i64 ((at_ : Int) + (m : Int))] := by simp [iv]
          rw [e]
          exact own8
        have H8 : Hid (Gl w8 w.heap.size (.slice (some ⟨g9, 0, none⟩) (k + 1) cap9) (Us ++ [.slice au nu cu]) (P ++ [fP (s.drop at_)]) ∧ Gi w8 w.heap.size (.slice (some ⟨g8, 0, none⟩) (k + 1) cap8) (edF 0 (P ++ [fP (s.drop at_)])) ∧ Below w.heap.size w w8) := ⟨hG8, hI8, B8⟩
        clear hG8 hI8 B8 own8 gr8 at8 lt8 eP
        go_wp2_with fail
        go_roundg (n - (at_ + m))
        case measure => omega
        case rel =>
          refine ⟨at_ + m, P ++ [fP (s.drop at_)], Us ++ [.slice au nu cu], by omega, rfl, by go_num, H8.out.1, H8.out.2.1, ?_, ?_, ?_, ?_, H8.out.2.2⟩
          · rw [tot_app, ← HP.out.1, HM.out, HQ.out.2.2]
            simp [tot]
          · rw [List.length_append, ← HK.out.1]
            simp
            omega
          · rw [HP.out.2.2.1, HQ.out.1, HM.out, List.drop_drop, List.append_assoc]
            rfl
          · rw [HP.out.2.2.2, HQ.out.2.1, HM.out, List.drop_drop]
      · obtain ⟨q1, q2⟩ := sc_stop (by rw [HZ.out.2]; omega) hE
        have HQ : Hid (scP s = P ∧ scE s = fE (s.drop at_)) := ⟨by rw [HP.out.2.2.1, q1, List.append_nil], by rw [HP.out.2.2.2, q2]⟩
        have d : (((fE (s.drop at_) : Nat) : Int) == 0) = false := by simp; omega
        have d' : ¬ ((fE (s.drop at_) : Nat) : Int) = 0 := by omega
        clear q1 q2
        obtain ⟨E, hEE⟩ : ∃ E, E = fE (s.drop at_) := ⟨_, rfl⟩
        have HEE : Hid (E = fE (s.drop at_)) := hEE
        rw [← hEE] at HKF d d'
        clear hEE hE
        go_wp2_with fail
        refine HKF.out.mono ?_
        rintro e w1 ⟨u, rfl, hA⟩
        obtain ⟨au, nu, cu, rfl⟩ := hA.formE
        have H1 : Hid (Gl w1 w.heap.size (.slice av k cv) Us P ∧ Gi w1 w.heap.size (.slice ae k ce) (edF 0 P) ∧ Below w.heap.size w w1) := ⟨HG.out.1.below hA.below, gi_below HG.out.2.1 hA.below, HG.out.2.2.trans (hA.below.mono HG.out.2.2.size)⟩
        clear hA
        go_wp2_with fail
        go_ret3
        exact ⟨_, _, by rw [HQ.out.2, ← HEE.out]; rfl, ⟨Us, by rw [HQ.out.1]; exact H1.out.1⟩, by rw [HQ.out.1]; exact H1.out.2.1, H1.out.2.2⟩
    · have ean : at_ = n := by omega
      have i1 : ¬ (at_ : Int) < (n : Int) := by omega
      have hdl : (s.drop at_).length = 0 := by rw [List.length_drop, ← HN.out]; omega
      have HQ : Hid (scP s = P ∧ scE s = 0) := ⟨by rw [HP.out.2.2.1, (sc_empty hdl).1, List.append_nil], by rw [HP.out.2.2.2, (sc_empty hdl).2]⟩
      clear hdl
      go_wp2_with fail
      go_ret3
      exact ⟨_, _, by rw [HQ.out.2]; rfl, ⟨Us, by rw [HQ.out.1]; exact HG.out.1⟩, by rw [HQ.out.1]; exact HG.out.2.1, HG.out.2.2⟩
end Go.Proofs.Ytnknhjabebcmeaa
