/-
  FrameCuts: the law.
-/
import Derived.Test.YtnknhjabebcmeaaCt
import Derived.Deep.CutBlock
import Derived.Deep.DeepCutAuto
namespace Go.Proofs.Ytnknhjabebcmeaa
open Go.RowKit

/-- behind i rounds of the first loop -/
structure R1 (w wr : World) (Q : List (List Nat)) (vb ve vl : Value) (Us : List Value) : Prop where
  b : wr.ownsRow w.heap.size 5 1 vb (tot Q) (bv (flat Q))
  e : wr.ownsRow w.heap.size 3 1 ve Q.length (iv (edF 0 Q))
  l : wr.ownsRow w.heap.size 23 1 vl Q.length Us
  vb : ∀ (i : Nat) (u : Value) (s : List Nat), Us[i]? = some u → Q[i]? = some s → Vb w u s
  below : Below w.heap.size w wr
theorem R1.keep {w wr wz : World} {Q : List (List Nat)} {vb ve vl : Value} {Us : List Value} (h : R1 w wr Q vb ve vl Us) (k : Below wr.heap.size wr wz) : R1 w wz Q vb ve vl Us :=
  ⟨own_turn h.b (Turn.of_below (F := fun _ => False) k) (fun _ _ q => q), own_turn h.e (Turn.of_below (F := fun _ => False) k) (fun _ _ q => q), own_turn h.l (Turn.of_below (F := fun _ => False) k) (fun _ _ q => q), h.vb, ch h.below k⟩
/-- a row of another type is as it was -/
theorem own_far {w w' : World} {B B' e e' k n : Nat} {u v : Value} {xs ys : List Value} (h : w.ownsRow B e 1 v n xs) (o : w.ownsRow B' e' 1 u k ys) (hne : e' ≠ e) (gr : w.grownBy w' u.ownBlock) : w'.ownsRow B e 1 v n xs := by
  refine own_turn h (Turn.of_grown (F := fun i => u.ownBlock = some i) gr (fun k e => e)) (fun g hg z => ?_)
  obtain ⟨cur, hc⟩ := own_block o z
  exact own_ne_cells h hc hne hg

set_option maxRecDepth 100000 in
set_option maxHeartbeats 64000000 in
theorem fcuts_any (w : World) (v0 v2 : Value) (m : Int) (L : List (List Nat)) (t : List Nat) (h0 : Lv w v0 L) (h2 : Vb w v2 t) (hL : L.length ≤ 1048576) (hp : ∀ p ∈ L, p.length ≤ 1048576) (ht : t.length ≤ 1048576) :
    Calls Try.prog 3 #[v0, .int .i64 m, v2] w fun e w' => e = .returned (.bool true) ∧ Below w.heap.size w w' := by
  obtain ⟨pa, pb, po, pc, Ps, rfl, p1, p2, p3, p4, p5, p6⟩ := h0
  obtain ⟨ta, tc, et⟩ : ∃ a c, v2 = .slice a t.length c := by
    obtain ⟨a, b, off, c, rfl, _⟩ := h2
    exact ⟨a, c, rfl⟩
  subst et
  have HT : Hid (Vb w (.slice ta t.length tc) t ∧ t.length ≤ 1048576) := ⟨h2, ht⟩
  have HP : Hid ((0 < L.length → pa = some ⟨pb, po, none⟩) ∧ (∀ i, i < L.length → ∃ a n c s, L[i]? = some s ∧ w.cell? ⟨pb, po + i, none⟩ = some (.slice a n c) ∧ Vb w (.slice a n c) s ∧ n = s.length ∧ s.length ≤ 1048576 ∧ s.length ≤ c)) := by
    refine ⟨p2, fun i hi => ?_⟩
    have e1 := List.getElem?_eq_getElem (l := Ps) (i := i) (by omega)
    have e2 := List.getElem?_eq_getElem (l := L) (i := i) hi
    have v := p4 i _ _ e1 e2
    have c := p3 i _ e1
    obtain ⟨a, b, off, cc, e, q1, q2, q3⟩ := v
    have vv := p4 i _ _ e1 e2
    rw [e] at c vv
    exact ⟨a, _, cc, _, e2, c, vv, rfl, hp _ (List.mem_of_getElem? e2), q2⟩
  obtain ⟨tn, etn⟩ : ∃ k, k = t.length := ⟨_, rfl⟩
  have HTN : Hid (tn = t.length) := etn
  obtain ⟨n, en⟩ : ∃ n, n = L.length := ⟨_, rfl⟩
  have HN : Hid (n = L.length) := en
  rw [← etn] at HT ht ⊢
  rw [← en] at HP hL p5 ⊢
  clear p1 p2 p3 p4 p6 h2 hp etn en
  obtain ⟨iB, hiB, hzB0, hzB1, hzB2⟩ := info_parts infoB
  have HIB : Hid (Try.prog.info? 23 = some iB ∧ iB.zero = some nilS ∧ iB.size = 1 ∧ iB.bytes = 24) := ⟨hiB, hzB0, hzB1, hzB2⟩
  obtain ⟨iI, hiI, hzI0, hzI1, hzI2⟩ := info_parts info3
  have HII : Hid (Try.prog.info? 3 = some iI ∧ iI.zero = some (.int .i64 0) ∧ iI.size = 1 ∧ iI.bytes = 8) := ⟨hiI, hzI0, hzI1, hzI2⟩
  clear hiB hzB0 hzB1 hzB2 hiI hzI0 hzI1 hzI2
  go_enter Try.func3, Try.ntmps3
  go_upto_block 0 with fail
  go_cut [7, 8, 9] (fun vb ve vl wx => ∃ Us, R1 w wx (clip (L.take 50)) vb ve vl Us)
  case first => as_aux_lemma =>
     go_wp2_with fail
     go_loopg [7, 8, 9, 10] (min n 50) (fun g vb ve vl ii wr => ∃ (i : Nat) (Us : List Value), i ≤ n ∧ i ≤ 50 ∧ g = min n 50 - i ∧ ii = .int .i64 i ∧ R1 w wr (clip (L.take i)) vb ve vl Us)
     case atStart => exact ⟨0, [], Nat.zero_le _, Nat.zero_le _, rfl, rfl, ⟨World.ownsRow_nil _ _ _ _, World.ownsRow_nil _ _ _ _, World.ownsRow_nil _ _ _ _, (fun i u s hu => by cases hu), Below.refl _ _⟩⟩
     case round =>
       obtain ⟨i, Us, hin, hi50, rfl, rfl, hR⟩ := hrel
       obtain ⟨Q, eQ⟩ : ∃ Q, Q = clip (L.take i) := ⟨_, rfl⟩
       have hQl : Q.length = i := by rw [eQ, clip_len, List.length_take]; have := HN.out; omega
       have hQt : tot Q ≤ 16391 * 50 := by
         have := tot_le Q (by rw [eQ]; exact clip_le _)
         omega
       have hQb : ∀ p ∈ Q, p.length ≤ 16384 ∧ ∀ x ∈ p, x < 256 := fun p hp => by
         obtain ⟨j, hj, e⟩ := List.getElem_of_mem hp
         have hl := hR.l.1
         rw [← eQ] at hl
         have h1 := hR.vb j _ p (List.getElem?_eq_getElem (l := Us) (i := j) (by omega)) (by rw [← eQ, ← e]; exact List.getElem?_eq_getElem hj)
         exact ⟨clip_le (L.take i) p (by rw [← eQ]; exact hp), vb_byt h1⟩
       have HQ : Hid (Q = clip (L.take i) ∧ Q.length = i ∧ ∀ p ∈ Q, p.length ≤ 16384 ∧ ∀ x ∈ p, x < 256) := ⟨eQ, hQl, hQb⟩
       rw [← eQ] at hR
       obtain ⟨ba, bc, q1⟩ := own_slice hR.b
       obtain ⟨ea, ec, q2⟩ := own_slice hR.e
       obtain ⟨la, lc, q3⟩ := own_slice hR.l
       subst q1
       subst q2
       subst q3
       have HR : Hid (R1 w wr Q (.slice ba (tot Q) bc) (.slice ea Q.length ec) (.slice la Q.length lc) Us) := hR
       obtain ⟨bn, ebn⟩ : ∃ k, k = tot Q := ⟨_, rfl⟩
       have HBN : Hid (bn = tot Q) := ebn
       rw [hQl, ← ebn] at HR ⊢
       rw [← ebn] at hQt
       clear hR eQ hQl hQb ebn
       by_cases hgo : i < n ∧ i < 50
       · obtain ⟨g1, g2⟩ := hgo
         have i1 : (i : Int) < (n : Int) := by omega
         have i2 : (i : Int) < 50 := by omega
         obtain rfl := HP.out.1 (by omega)
         obtain ⟨xa, xn, xc, s, hs, c1, hvb, exn, hsl, hxc⟩ := HP.out.2 i g1
         have cc : wr.cell? ⟨pb, po + i, none⟩ = some (.slice xa xn xc) := (HR.out.below.cell (p := ⟨pb, po + i, none⟩) (World.block_lt_of_cell? _ _ c1)).trans c1
         have HS : Hid (L[i]? = some s ∧ Vb w (.slice xa xn xc) s ∧ xn = s.length ∧ s.length ≤ xc) := ⟨hs, hvb, exn, hxc⟩
         have hxn : xn ≤ 1048576 := by omega
         have hxnc : xn ≤ xc := by omega
         clear hs c1 hvb exn hsl hxc
         have HC : Hid (∃ k, k = (s.take 16384).length ∧ (16384 < xn → k = 16384) ∧ (xn ≤ 16384 → k = xn) ∧ k ≤ 16384 ∧ Vb w (.slice xa k xc) (s.take 16384)) := by
           refine ⟨(s.take 16384).length, rfl, fun h => ?_, fun h => ?_, ?_, ?_⟩
           · rw [List.length_take]; have := HS.out.2.2.1; omega
           · rw [List.length_take]; have := HS.out.2.2.1; omega
           · rw [List.length_take]; omega
           · have := HS.out.2.1.pre (min 16384 s.length) (by omega)
             rw [List.length_take]
             have e : s.take (min 16384 s.length) = s.take 16384 := by
               rw [Nat.min_def]
               split
               · rfl
               · rw [List.take_of_length_le (Nat.le_refl _), List.take_of_length_le (by omega)]
             rw [e] at this
             exact this
         obtain ⟨k, ek, ek1, ek2, hk, hkv⟩ := HC.out
         have HK : Hid (k = (s.take 16384).length ∧ Vb w (.slice xa k xc) (s.take 16384)) := ⟨ek, hkv⟩
         clear ek hkv HC
         by_cases hbig : 16384 < xn
         case' pos =>
           have hbig' : (16384 : Int) < (xn : Int) := by omega
           have ek3 := ek1 hbig
           have j1 : ∀ u, (Instr.slice 23 (.slice xa xn xc) none (some (.int .i64 16384)) none).run Try.prog u = .ok (.slice xa k xc) u := fun u => by rw [ek3]; exact slice_upto xa xn xc 16384 (by omega) u
           clear ek3
           clear ek1 ek2
           go_wp2_with fail
         case' neg =>
           have hbig' : ¬ (16384 : Int) < (xn : Int) := by omega
           obtain rfl := ek2 (by omega)
           clear ek1 ek2
           go_wp2_with fail
         all_goals
           refine (wrap_vb (HK.out.2.keep (HR.out.below))).mono ?_
           rintro e w1 ⟨u, rfl, hA⟩
           rw [clipped.1]
           rw [clipped.2] at hA
           have hfl : (frm (s.take 16384)).length = k + 7 := by rw [frm_len, ← HK.out.1]; omega
           have ho := hA.own
           rw [hfl] at ho
           obtain ⟨gw, cw, eu, hgw, hgw2⟩ := ho.form (by omega)
           subst eu
           have c0 : w1.cell? ⟨gw, 0, none⟩ = some (.int .u8 202) := by
             have := ho.cells (g := gw) rfl 0 (.int .u8 202) rfl
             rw [add_flat] at this
             exact this
           have HA : Hid (View w1 (some ⟨gw, 0, none⟩) gw 0 (k + 7) (fun j => ((gd (frm (s.take 16384)) j : Nat) : Int)) ∧ (∀ x ∈ frm (s.take 16384), x < 256) ∧ (frm (s.take 16384)).length = k + 7) := by
             obtain ⟨a', b', off', c', e, hv, _⟩ := hA.vb
             rw [hfl] at e
             injection e with e1 e2 e3
             subst e1
             unfold Vw at hv
             rw [hfl] at hv
             have hb : some (⟨gw, 0, none⟩ : Addr) = some ⟨b', off', none⟩ := hv.at_ (by omega)
             injection hb with hb
             injection hb with hb1 hb2
             subst hb1
             subst hb2
             exact ⟨hv, hA.byt, hfl⟩
           have H1 : Hid (R1 w w1 Q (.slice ba bn bc) (.slice ea i ec) (.slice la i lc) Us) := HR.out.keep hA.below
           clear hA ho hfl hgw hgw2 cc
           have ob : w1.ownsRow w.heap.size 5 1 (.slice ba bn bc) bn (bv (flat Q)) := by
             have := H1.out.b
             rw [← HBN.out] at this
             exact this
           have oe : w1.ownsRow w.heap.size 3 1 (.slice ea i ec) i (iv (edF 0 Q)) := by
             have := H1.out.e
             rw [HQ.out.2.1] at this
             exact this
           have ol : w1.ownsRow w.heap.size 23 1 (.slice la i lc) i Us := by
             have := H1.out.l
             rw [HQ.out.2.1] at this
             exact this
           have HO : Hid (w1.ownsRow w.heap.size 5 1 (.slice ba bn bc) bn (bv (flat Q)) ∧ w1.ownsRow w.heap.size 3 1 (.slice ea i ec) i (iv (edF 0 Q)) ∧ w1.ownsRow w.heap.size 23 1 (.slice la i lc) i Us ∧ Below w.heap.size w w1 ∧ ∀ (i : Nat) (u : Value) (s : List Nat), Us[i]? = some u → Q[i]? = some s → Vb w u s) := ⟨ob, oe, ol, H1.out.below, H1.out.vb⟩
           clear ob oe ol H1 HR
           go_wp2_with (at_builtin; go_loud (refine wpList_append_bytes (by rfl) (.tmp 65) (.tmp 66) (by rfl) w.heap.size _ bn _ (by rfl) HO.out.1 (some ⟨gw, 0, none⟩) gw 0 (k + 7) cw _ (by rfl) HA.out.1 (fun h => by cases h) (by omega) HO.out.2.2.2.1.size ?_))
           intro b2 w2 ob gr2 nn2
           have oe := own_far HO.out.2.1 HO.out.1 (by decide) gr2
           have ol := own_far HO.out.2.2.1 HO.out.1 (by decide) gr2
           have B2 : Below w.heap.size w w2 := HO.out.2.2.2.1.trans (grown_below gr2 HO.out.1 (Nat.le_refl _) HO.out.2.2.2.1.size)
           have ob' : w2.ownsRow w.heap.size 5 1 b2 (bn + (k + 7)) (bv (flat Q ++ frm (s.take 16384))) := by
             rw [bv_app, ← vals_bv (frm (s.take 16384)), HA.out.2.2]
             exact ob
           obtain ⟨ba2, bc2, q1⟩ := own_slice ob'
           subst q1
           have HO2 : Hid (w2.ownsRow w.heap.size 5 1 (.slice ba2 (bn + (k + 7)) bc2) (bn + (k + 7)) (bv (flat Q ++ frm (s.take 16384))) ∧ w2.ownsRow w.heap.size 3 1 (.slice ea i ec) i (iv (edF 0 Q)) ∧ w2.ownsRow w.heap.size 23 1 (.slice la i lc) i Us ∧ Below w.heap.size w w2 ∧ ∀ (i : Nat) (u : Value) (s : List Nat), Us[i]? = some u → Q[i]? = some s → Vb w u s) := ⟨ob', oe, ol, B2, HO.out.2.2.2.2⟩
           clear ob ob' oe ol B2 gr2 nn2 HO c0
           go_wp2_with (at_builtin; go_loud (refine wpList_append_lies _ (by rfl) _ _ 22 (by rfl) w.heap.size 23 iB nilS 1 24 Try.underlying22 HIB.out.1 HIB.out.2.1 HIB.out.2.2.1 HIB.out.2.2.2 (by rfl) (by decide) (.slice la i lc) i Us (by rfl) (HO2.out.2.2.1.alloc _) ⟨w2.heap.size, 0, none⟩ 1 1 [.slice xa k xc] (by rfl) (by rfl) (World.news_of_block (cs := #[.slice xa k xc]) (t := 23) (fr := (0, 0)) (heap_alloc_new _ _)) (by simp [Value.oneCell']) (by decide) (by unfold maxLen; omega) (by omega) (by have := HO2.out.2.2.2.1.size; simp; omega) _ (by rfl) ?_))
           intro g3 cap3 w3 ol gr3 at3 lt3
           have ob := own_far (HO2.out.1.alloc (.cells #[.slice xa k xc] 23)) (HO2.out.2.2.1.alloc (.cells #[.slice xa k xc] 23)) (by decide) gr3
           have oe := own_far (HO2.out.2.1.alloc (.cells #[.slice xa k xc] 23)) (HO2.out.2.2.1.alloc (.cells #[.slice xa k xc] 23)) (by decide) gr3
           have B3 : Below w.heap.size w w3 := (HO2.out.2.2.2.1.alloc HO2.out.2.2.2.1.size _).grown gr3 (by simp; have := HO2.out.2.2.2.1.size; omega) (fun j hj => (HO2.out.2.2.1.lt j hj).1)
           have HO3 : Hid (w3.ownsRow w.heap.size 5 1 (.slice ba2 (bn + (k + 7)) bc2) (bn + (k + 7)) (bv (flat Q ++ frm (s.take 16384))) ∧ w3.ownsRow w.heap.size 3 1 (.slice ea i ec) i (iv (edF 0 Q)) ∧ w3.ownsRow w.heap.size 23 1 (.slice (some ⟨g3, 0, none⟩) (i + 1) cap3) (i + 1) (Us ++ [.slice xa k xc]) ∧ Below w.heap.size w w3 ∧ ∀ (i : Nat) (u : Value) (s : List Nat), Us[i]? = some u → Q[i]? = some s → Vb w u s) := ⟨ob, oe, ol, B3, HO2.out.2.2.2.2⟩
           clear ob oe ol B3 gr3 at3 lt3 HO2
           go_wp2_with (at_builtin; go_loud (refine wpList_append_lies _ (by rfl) (.tmp 72) (.tmp 75) 24 (by rfl) w.heap.size 3 iI (.int .i64 0) 1 8 Try.underlying24 HII.out.1 HII.out.2.1 HII.out.2.2.1 HII.out.2.2.2 (by rfl) (by decide) (.slice ea i ec) i (iv (edF 0 Q)) (by rfl) (HO3.out.2.1.alloc _) ⟨w3.heap.size, 0, none⟩ 1 1 [.int .i64 ((bn : Int) + ((k : Int) + 7))] (by rfl) (by rfl) (World.news_of_block (cs := #[.int .i64 ((bn : Int) + ((k : Int) + 7))]) (t := 3) (fr := (0, 0)) (heap_alloc_new _ _)) (by simp [Value.oneCell']) (by decide) (by unfold maxLen; omega) (by omega) (by have := HO3.out.2.2.2.1.size; simp; omega) _ (by rfl) ?_))
           intro g4 cap4 w4 oe gr4 at4 lt4
           have ob := own_far (HO3.out.1.alloc (.cells #[.int .i64 ((bn : Int) + ((k : Int) + 7))] 3)) (HO3.out.2.1.alloc (.cells #[.int .i64 ((bn : Int) + ((k : Int) + 7))] 3)) (by decide) gr4
           have ol := own_far (HO3.out.2.2.1.alloc (.cells #[.int .i64 ((bn : Int) + ((k : Int) + 7))] 3)) (HO3.out.2.1.alloc (.cells #[.int .i64 ((bn : Int) + ((k : Int) + 7))] 3)) (by decide) gr4
           have B4 : Below w.heap.size w w4 := (HO3.out.2.2.2.1.alloc HO3.out.2.2.2.1.size _).grown gr4 (by simp; have := HO3.out.2.2.2.1.size; omega) (fun j hj => (HO3.out.2.1.lt j hj).1)
           have eQ' : clip (L.take (i + 1)) = Q ++ [s.take 16384] := by
             have hi : i < L.length := by have := HN.out; omega
             rw [clip_take L i hi, ← HQ.out.1]
             have e := HS.out.1
             rw [List.getElem?_eq_getElem hi] at e
             rw [Option.some.inj e]
           have H4 : Hid (R1 w w4 (clip (L.take (i + 1))) (.slice ba2 (bn + (k + 7)) bc2) (.slice (some ⟨g4, 0, none⟩) (i + 1) cap4) (.slice (some ⟨g3, 0, none⟩) (i + 1) cap3) (Us ++ [.slice xa k xc])) := by
             show R1 w w4 (clip (L.take (i + 1))) (.slice ba2 (bn + (k + 7)) bc2) (.slice (some ⟨g4, 0, none⟩) (i + 1) cap4) (.slice (some ⟨g3, 0, none⟩) (i + 1) cap3) (Us ++ [.slice xa k xc])
             rw [eQ']
             have et : tot (Q ++ [s.take 16384]) = bn + (k + 7) := by rw [tot_snoc, HBN.out, HK.out.1]; omega
             refine ⟨?_, ?_, ?_, fun j u r hu hr => ?_, B4⟩
             · rw [et, flat_snoc]
               exact ob
             · rw [List.length_append, HQ.out.2.1, edF_snoc]
               have e : iv (edF 0 Q ++ [tot Q + (7 + (s.take 16384).length)]) = iv (edF 0 Q) ++ [.int .i64 ((bn : Int) + ((k : Int) + 7))] := by
                 unfold iv
                 rw [List.map_append]
                 congr 1
                 show [Value.int .i64 ((tot Q + (7 + (s.take 16384).length) : Nat) : Int)] = _
                 rw [← HBN.out, ← HK.out.1]
                 congr 2
                 omega
               rw [e]
               exact oe
             · rw [List.length_append, HQ.out.2.1]
               exact ol
             · have hUl : Us.length = i := by have := HO3.out.2.2.1.1; simp at this; omega
               rcases Nat.lt_or_ge j i with q | q
               · rw [List.getElem?_append_left (by omega)] at hu
                 rw [List.getElem?_append_left (by have := HQ.out.2.1; omega)] at hr
                 exact HO3.out.2.2.2.2 j u r hu hr
               · rw [List.getElem?_append_right (by omega)] at hu
                 rw [List.getElem?_append_right (by have := HQ.out.2.1; omega)] at hr
                 have hj : j = i := by
                   have := (List.getElem?_eq_some_iff.1 hu).1
                   simp at this
                   omega
                 subst hj
                 rw [hUl] at hu
                 rw [HQ.out.2.1] at hr
                 simp at hu hr
                 subst hu
                 subst hr
                 exact HK.out.2
           clear ob oe ol B4 gr4 at4 lt4 HO3 eQ'
           go_wp2_with fail
           go_roundg (min n 50 - (i + 1))
           case measure => omega
           case rel => exact ⟨i + 1, Us ++ [.slice xa k xc], by omega, by omega, rfl, by go_num, H4.out⟩
       · have HF : Hid (R1 w wr (clip (L.take 50)) (.slice ba bn bc) (.slice ea i ec) (.slice la i lc) Us) := by
           have e : L.take 50 = L.take i := by
             have := HN.out
             rcases Nat.lt_or_ge i 50 with q | q
             · rw [List.take_of_length_le (l := L) (by omega), List.take_of_length_le (l := L) (by omega)]
             · rw [show i = 50 by omega]
           show R1 w wr (clip (L.take 50)) (.slice ba bn bc) (.slice ea i ec) (.slice la i lc) Us
           rw [e, ← HQ.out.1]
           exact HR.out
         have hex : ¬ (i < n) ∨ (i < n ∧ ¬ i < 50) := by omega
         clear hgo HR HQ HBN
         rcases hex with g1 | ⟨g1, g2⟩
         · have i1 : ¬ (i : Int) < (n : Int) := by omega
           go_wp2_with fail
           go_meet
           exact ⟨Us, HF.out⟩
         · have i1 : (i : Int) < (n : Int) := by omega
           have i2 : ¬ (i : Int) < 50 := by omega
           go_wp2_with fail
           go_meet
           exact ⟨Us, HF.out⟩
  case rest =>
   obtain ⟨Us, hR⟩ := hcut
   clear HP
   obtain ⟨Q, eQ⟩ : ∃ Q, Q = clip (L.take 50) := ⟨_, rfl⟩
   rw [← eQ] at hR
   have hQl : Q.length ≤ 50 := by rw [eQ, clip_len, List.length_take]; omega
   have hQ16 : ∀ p ∈ Q, p.length ≤ 16384 := by rw [eQ]; exact clip_le _
   have hQt : tot Q ≤ 16391 * 50 := by have := tot_le Q hQ16; omega
   have HQ16 : Hid (∀ p ∈ Q, p.length ≤ 16384) := hQ16
   clear eQ hQ16
   obtain ⟨ba, bc, q1⟩ := own_slice hR.b
   obtain ⟨ea, ec, q2⟩ := own_slice hR.e
   obtain ⟨la, lc, q3⟩ := own_slice hR.l
   subst q1
   subst q2
   subst q3
   have hbc : tot Q ≤ bc := by
     rcases hR.b.2 with ⟨e, h0⟩ | ⟨g, cap, cur, e, _, _, h1, _⟩
     · injection e with _ _ e; omega
     · injection e with _ _ e; omega
   have hec : Q.length ≤ ec := by
     rcases hR.e.2 with ⟨e, h0⟩ | ⟨g, cap, cur, e, _, _, h1, _⟩
     · injection e with _ _ e; omega
     · injection e with _ _ e; omega
   have hlc : Q.length ≤ lc := by
     rcases hR.l.2 with ⟨e, h0⟩ | ⟨g, cap, cur, e, _, _, h1, _⟩
     · injection e with _ _ e; omega
     · injection e with _ _ e; omega
   have hQb : ∀ x ∈ flat Q, x < 256 := flat_bytes Q (fun p hp => by
     obtain ⟨j, hj, e⟩ := List.getElem_of_mem hp
     have hl := hR.l.1
     have h1 := hR.vb j _ p (List.getElem?_eq_getElem (l := Us) (i := j) (by omega)) (by rw [← e]; exact List.getElem?_eq_getElem hj)
     exact ⟨HQ16.out p hp, vb_byt h1⟩)
   -- what is seen, in whatever world follows
   have hS : Vb wc (.slice ba (tot Q) bc) (flat Q) ∧ Iv wc (.slice ea Q.length ec) (edF 0 Q) ∧ Lv wc (.slice la Q.length lc) Q := by
     refine ⟨?_, ?_, lv_own hR.l hR.vb hR.below (by omega)⟩
     · have hstr : Str wc Any (.slice ba (tot Q) bc) (flat Q) := ⟨by rw [flat_len]; exact own_base hR.b, fun _ _ => trivial, ⟨by rw [flat_len]; omega, hQb⟩⟩
       exact hstr.vb (by rw [flat_len]; omega)
     · exact gi_iv (B := w.heap.size) (by show wc.ownsRow w.heap.size 3 1 _ (edF 0 Q).length (iv (edF 0 Q)); rw [edF_len]; exact hR.e) (by rw [edF_len]; omega)
   have hIc : ∃ eb eo, (0 < Q.length → ea = some ⟨eb, eo, none⟩) ∧ ∀ x, x < Q.length → wc.cell? ⟨eb, eo + x, none⟩ = some (.int .i64 ((tot (Q.take (x + 1)) : Nat) : Int)) := by
     obtain ⟨a', b', off', c', e, h1, h2, _⟩ := hS.2.1
     injection e with e1 _ _
     subst e1
     rw [edF_len] at h1 h2
     exact ⟨b', off', h1, fun x hx => by rw [h2 x hx, edF_at Q 0 x hx, Nat.zero_add]⟩
   obtain ⟨eb, eo, hea, hec2⟩ := hIc
   have HE : Hid ((0 < Q.length → ea = some ⟨eb, eo, none⟩) ∧ ∀ x, x < Q.length → wc.cell? ⟨eb, eo + x, none⟩ = some (.int .i64 ((tot (Q.take (x + 1)) : Nat) : Int))) := ⟨hea, hec2⟩
   have HS : Hid (Vb wc (.slice ba (tot Q) bc) (flat Q) ∧ Iv wc (.slice ea Q.length ec) (edF 0 Q) ∧ Lv wc (.slice la Q.length lc) Q ∧ Below w.heap.size w wc) := ⟨hS.1, hS.2.1, hS.2.2, hR.below⟩
   have HB : Hid (∀ x ∈ flat Q, x < 256) := hQb
   obtain ⟨ql, eql⟩ : ∃ k, k = Q.length := ⟨_, rfl⟩
   obtain ⟨bn, ebn⟩ : ∃ k, k = tot Q := ⟨_, rfl⟩
   have HL : Hid (ql = Q.length ∧ bn = tot Q) := ⟨eql, ebn⟩
   rw [← eql, ← ebn] at HS ⊢
   rw [← eql] at HE hec hlc hQl
   rw [← ebn] at hbc hQt
   clear hR hS hQb hea hec2 eql ebn
   obtain ⟨w1, ew1⟩ : ∃ w1, w1 = wc := ⟨_, rfl⟩
   rw [← ew1] at HS HE ⊢
   clear ew1
   -- the place of the cut
   have d1 : ((bn : Int) + 1 == 0) = false := by simp; omega
   have d2 : ¬ (bn : Int) + 1 = 0 := by omega
   have hab := tmod_abs m bn
   obtain ⟨z, hz⟩ : ∃ z, m.tmod ((bn : Int) + 1) = z := ⟨_, rfl⟩
   rw [hz] at hab
   go_upto_if 83 with fail
   go_cut [14] (fun k wx => (∃ K : Nat, K ≤ bn ∧ k = .int .i64 (K : Nat)) ∧ wx = w1)
   case first =>
     by_cases hz0 : z < 0
     · have hw : wrap64 (-z) = ((z.natAbs : Nat) : Int) := by
         unfold wrap64
         omega
       go_wp2_with fail
       go_meet
       exact ⟨⟨z.natAbs, hab, by first | rfl | (rw [hw]) | go_num⟩, rfl⟩
     · go_wp2_with fail
       go_meet
       exact ⟨⟨z.natAbs, hab, by rw [show ((z.natAbs : Nat) : Int) = z by omega]⟩, rfl⟩
   case rest =>
     obtain ⟨⟨K, hK, rfl⟩, rfl⟩ := hcut
     clear hz hab d1 d2
     -- how many lie within it whole
     go_upto_block 2 with fail
     go_cut [15] (fun j wx => (∃ J : Nat, J ≤ ql ∧ j = .int .i64 (J : Nat) ∧ (∀ x, x < J → tot (Q.take (x + 1)) ≤ K) ∧ (J < ql → K < tot (Q.take (J + 1)))) ∧ wx = wc)
     case first => as_aux_lemma =>
         go_wp2_with fail
         go_loopg [15] ql (fun g jj wr => ∃ J : Nat, J ≤ ql ∧ g = ql - J ∧ jj = .int .i64 (J : Nat) ∧ (∀ x, x < J → tot (Q.take (x + 1)) ≤ K) ∧ wr = wc)
         case atStart => exact ⟨0, Nat.zero_le _, rfl, rfl, fun x hx => absurd hx (by omega), rfl⟩
         case round =>
           obtain ⟨J, hJ, rfl, rfl, hx, rfl⟩ := hrel
           have HX : Hid (∀ x, x < J → tot (Q.take (x + 1)) ≤ K) := hx
           clear hx
           by_cases hJq : J < ql
           · have i1 : (J : Int) < (ql : Int) := by omega
             obtain rfl := HE.out.1 (by omega)
             have c1 := HE.out.2 J hJq
             obtain ⟨y, hy⟩ : ∃ y, y = tot (Q.take (J + 1)) := ⟨_, rfl⟩
             have HY : Hid (y = tot (Q.take (J + 1))) := hy
             rw [← hy] at c1
             clear hy
             by_cases hyK : y ≤ K
             · have i2 : (y : Int) ≤ (K : Int) := by omega
               go_wp2_with fail
               go_roundg (ql - (J + 1))
               case measure => omega
               case rel => exact ⟨J + 1, by omega, rfl, by go_num, fun x hx => by by_cases e : x = J; (subst e; rw [← HY.out]; exact hyK); exact HX.out x (by omega), rfl⟩
             · have i2 : ¬ (y : Int) ≤ (K : Int) := by omega
               go_wp2_with fail
               go_meet
               exact ⟨⟨J, hJ, rfl, HX.out, fun _ => by rw [← HY.out]; omega⟩, rfl⟩
           · have i1 : ¬ (J : Int) < (ql : Int) := by omega
             go_wp2_with fail
             go_meet
             exact ⟨⟨J, hJ, rfl, HX.out, fun h => absurd h hJq⟩, rfl⟩
     case rest =>
       obtain ⟨⟨J, hJ, rfl, hJ1, hJ2⟩, rfl⟩ := hcut
       obtain ⟨M, hM, hc1, hc2, hc3, hc4⟩ := sc_cut Q HQ16.out K (by have := HL.out.2; omega)
       have eJM : J = M := cut_unique (l := Q) (by have := HL.out.1; omega) hM hJ1 (fun h => hJ2 (by have := HL.out.1; omega)) hc2 hc3
       rw [← eJM] at hc1 hc2 hc4
       have HC : Hid (scP ((flat Q).take K) = Q.take J ∧ tot (Q.take J) ≤ K ∧ scE ((flat Q).take K) = (if K = tot (Q.take J) then 0 else 91)) := ⟨hc1, hc2, hc4⟩
       clear eJM hM hc1 hc2 hc3 hc4 hJ1 hJ2
       have hfl : (flat Q).length = bn := by rw [flat_len, HL.out.2]
       have j1 : ∀ u, (Instr.slice 23 (.slice ba bn bc) none (some (.int .i64 K)) none).run Try.prog u = .ok (.slice ba K bc) u := fun u => slice_upto ba bn bc K (by omega) u
       have j2 : ∀ u, (Instr.slice 22 (.slice la ql lc) none (some (.int .i64 J)) none).run Try.prog u = .ok (.slice la J lc) u := fun u => slice_uptoL la ql lc J (by omega) u
       have j3 : ∀ u, (Instr.slice 24 (.slice ea ql ec) none (some (.int .i64 J)) none).run Try.prog u = .ok (.slice ea J ec) u := fun u => slice_uptoI ea ql ec J (by omega) u
       have HP : Hid (Vb wc (.slice ba K bc) ((flat Q).take K)) := HS.out.1.pre K (by omega)
       go_wp2_with fail
       refine (scan_vb (s := (flat Q).take K) HP.out (by rw [List.length_take]; omega)).mono ?_
       rintro e w2 ⟨u, ue, rfl, ⟨U2, g2⟩, i2, b2⟩
       rw [HC.out.1] at g2 i2
       have hTl : (Q.take J).length = J := by rw [List.length_take]; have := HL.out.1; omega
       have H2 : Hid (Lv w2 u (Q.take J) ∧ Iv w2 ue (edF 0 (Q.take J)) ∧ Lv w2 (.slice la J lc) (Q.take J) ∧ Iv w2 (.slice ea J ec) (edF 0 (Q.take J)) ∧ Below wc.heap.size wc w2) := by
         refine ⟨g2.lv (by rw [hTl]; omega), gi_iv i2 (by rw [edF_len, hTl]; omega), (HS.out.2.2.1.keep b2).pre J (by have := HL.out.1; omega), ?_, b2⟩
         have := (HS.out.2.1.keep b2).pre J (by rw [edF_len]; have := HL.out.1; omega)
         rw [edF_take] at this
         exact this
       obtain ⟨ua, uc, q1⟩ := own_slice g2.own
       obtain ⟨uea, uec, q2⟩ := own_slice i2
       subst q1
       subst q2
       rw [edF_len, hTl] at H2 ⊢
       obtain ⟨E, hEE⟩ : ∃ E, E = scE ((flat Q).take K) := ⟨_, rfl⟩
       have HEE : Hid (E = (if K = tot (Q.take J) then 0 else 91)) := hEE.trans HC.out.2.2
       rw [← hEE]
       clear hEE g2 i2 b2 hTl HP
       have HE2 : Hid (0 < J → ea = some ⟨eb, eo, none⟩ ∧ w2.cell? ⟨eb, eo + (J - 1), none⟩ = some (.int .i64 ((tot (Q.take J) : Nat) : Int))) := fun h => by
         have c := HE.out.2 (J - 1) (by omega)
         rw [show J - 1 + 1 = J by omega] at c
         exact ⟨HE.out.1 (by omega), (H2.out.2.2.2.2.cell (p := ⟨eb, eo + (J - 1), none⟩) (World.block_lt_of_cell? _ _ c)).trans c⟩
       go_upto_region 23 with fail
       go_cut [19] (fun cl wx => cl = .bool (decide (E = 0)) ∧ wx = w2)
       case first => as_aux_lemma =>
           by_cases h0 : K = 0
           · have e0 : tot (Q.take J) = 0 := by have := HC.out.2.1; omega
             have HR0 : Hid (E = 0) := by show E = 0; rw [HEE.out, if_pos (by omega)]
             have i0 : ((K : Int) == 0) = true := by simp; omega
             clear h0 e0
             go_wp2_with fail
             go_meet
             exact ⟨by rw [decide_eq_true HR0.out], rfl⟩
           · have i0 : ((K : Int) == 0) = false := by simp; omega
             by_cases hJ0 : 0 < J
             · have i3 : (0 : Int) < (J : Int) := by omega
               obtain ⟨rfl, c1⟩ := HE2.out hJ0
               obtain ⟨y, hy⟩ : ∃ y, y = tot (Q.take J) := ⟨_, rfl⟩
               rw [← hy] at c1
               have HY : Hid (E = (if K = y then 0 else 91)) := by rw [hy]; exact HEE.out
               have o1 : (0 : Int) ≤ (J : Int) - 1 := by omega
               have o2 : (J : Int) - 1 < (ql : Int) := by omega
               have o3 : ((J : Int) - 1).toNat = J - 1 := by omega
               clear hy
               by_cases hKy : K = y
               · have i4 : ((y : Int) == (K : Int)) = true := by simp; omega
                 have HR0 : Hid (E = 0) := by show E = 0; rw [HY.out, if_pos hKy]
                 clear hKy
                 go_wp2_with fail
                 go_meet
                 exact ⟨by rw [decide_eq_true HR0.out], rfl⟩
               · have i4 : ((y : Int) == (K : Int)) = false := by simp; omega
                 have eE : E ≠ 0 := by rw [HY.out, if_neg hKy]; decide
                 go_wp2_with fail
                 go_meet
                 exact ⟨by rw [decide_eq_false eE], rfl⟩
             · have i3 : ¬ (0 : Int) < (J : Int) := by omega
               have e0 : tot (Q.take J) = 0 := by rw [show J = 0 by omega]; rfl
               have eE : E ≠ 0 := by rw [HEE.out, if_neg (by omega)]; decide
               go_wp2_with fail
               go_meet
               exact ⟨by rw [decide_eq_false eE], rfl⟩
       case rest =>
         obtain ⟨rfl, rfl⟩ := hcut
         have H5 : Hid (Vb wc (.slice ba bn bc) (flat Q) ∧ Lv wc (.slice la ql lc) Q ∧ Below w.heap.size w wc) := ⟨HS.out.1.keep H2.out.2.2.2.2, HS.out.2.2.1.keep H2.out.2.2.2.2, ch HS.out.2.2.2 H2.out.2.2.2.2⟩
         clear HS HE HE2 HC
         go_upto_region 24 with fail
         go_cut [19, 150] (fun _ cl wx => cl = .bool false ∧ Below wc.heap.size wc wx)
         case first => as_aux_lemma =>
             have HE0 : Hid (E = 0 ∨ E = 91) := by
               show E = 0 ∨ E = 91
               rw [HEE.out]
               split
               · exact Or.inl rfl
               · exact Or.inr rfl
             have HK1 : Hid (∀ w' : World, Calls Try.prog 8 #[.slice ua J uc, .slice la J lc] wc fun e w' => e = .returned (.bool true) ∧ Below wc.heap.size wc w') := fun _ => sameL_yes H2.out.1 H2.out.2.2.1
             have HK2 : Hid (∀ w' : World, Below wc.heap.size wc w' → Calls Try.prog 9 #[.slice uea J uec, .slice ea J ec] w' fun e w'' => e = .returned (.bool true) ∧ Below w'.heap.size w' w'') := fun w' hb => sameI_yes (H2.out.2.1.keep hb) (H2.out.2.2.2.1.keep hb)
             by_cases hE0 : E = 0
             case' pos =>
               obtain ⟨E1, hE1⟩ : ∃ E1 : Nat, E1 = 0 := ⟨_, rfl⟩
               have i5 : ((E : Int) == 0) = true := by simp; omega
               have i6 : ((E : Int) != 0) = false := by simp; omega
               have i7 : decide (E = 0) = true := decide_eq_true hE0
               have i8 : ((E : Int) == 91) = false := by simp; omega
               clear hE0 hE1
             case' neg =>
               have hE91 : E = 91 := by have := HE0.out; omega
               have i5 : ((E : Int) == 0) = false := by simp; omega
               have i6 : ((E : Int) != 0) = true := by simp; omega
               have i7 : decide (E = 0) = false := decide_eq_false hE0
               have i8 : ((E : Int) == 91) = true := by simp; omega
               have i9 : ((E : Int) != 91) = false := by simp; omega
               clear hE0 hE91
             all_goals
               rw [i7]
               clear HEE
               go_wp2_with fail
               refine (HK1.out wc).mono ?_
               rintro e w3 ⟨rfl, b3⟩
               have HB3 : Hid (Below wc.heap.size wc w3) := b3
               clear b3
               go_wp2_with fail
               refine (HK2.out w3 HB3.out).mono ?_
               rintro e w4 ⟨rfl, b4⟩
               have HB4 : Hid (Below wc.heap.size wc w4) := ch HB3.out b4
               clear b4 HB3
               go_wp2_with fail
               go_meet
               exact ⟨rfl, HB4.out⟩
         case rest =>
           obtain ⟨rfl, hb4⟩ := hcut
           have H6 : Hid (Vb wc (.slice ba bn bc) (flat Q) ∧ Lv wc (.slice la ql lc) Q ∧ Below w.heap.size w wc) := ⟨H5.out.1.keep hb4, H5.out.2.1.keep hb4, ch H5.out.2.2 hb4⟩
           clear hb4 H5 H2 HEE j1 j2 j3
           as_aux_lemma =>
             obtain ⟨w6, ew6⟩ : ∃ w6, w6 = wc := ⟨_, rfl⟩
             rw [← ew6] at H6 ⊢
             clear ew6
             have hV : ∃ bb bo, View (w6.alloc (.cells #[] 5)) ba bb bo bn (fun i => ((gd (flat Q) i : Nat) : Int)) ∧ (ba = none → bc = 0) := by
               obtain ⟨a', b', off', c', e, hv, h1, h2, h3⟩ := H6.out.1
               injection e with e1 e2 e3
               subst e1
               subst e3
               have hv' := hv.below ((Below.refl w6.heap.size w6).alloc (Nat.le_refl _) (.cells #[] 5))
               rw [← e2] at hv'
               exact ⟨b', off', hv', h2⟩
             obtain ⟨bb, bo, hvb, hbn0⟩ := hV
             have HVB : Hid (View (w6.alloc (.cells #[] 5)) ba bb bo bn (fun i => ((gd (flat Q) i : Nat) : Int)) ∧ (ba = none → bc = 0)) := ⟨hvb, hbn0⟩
             clear hvb hbn0
             have own0 := World.ownsRow_lit (base := w6.heap.size) (e := 5) (size := 1) w6 #[] 0 (Nat.le_refl _) (by decide) rfl
             have HO : Hid ((w6.alloc (.cells #[] 5)).ownsRow w6.heap.size 5 1 (.slice (some ⟨w6.heap.size, 0, none⟩) 0 0) 0 []) := own0
             clear own0
             go_wp2_with (at_builtin; go_loud (refine wpList_append_bytes (by rfl) (.tmp 151) (.tmp 152) (by rfl) w6.heap.size _ 0 [] (by rfl) HO.out ba bb bo bn bc _ (by rfl) HVB.out.1 HVB.out.2 (by omega) (by simp) ?_))
             intro x7 w7 own7 gr7 nn7
             have b7 : Below w6.heap.size w6 w7 := ((Below.refl _ _).alloc (Nat.le_refl _) _).trans (grown_below gr7 HO.out (Nat.le_refl _) (by simp))
             have own7' : w7.ownsRow w6.heap.size 5 1 x7 bn (bv (flat Q)) := by
               rw [← vals_bv (flat Q), hfl]
               simpa using own7
             obtain ⟨xa7, xc7, q1⟩ := own_slice own7'
             subst q1
             have hV : ∃ tb t0, View w7 ta tb t0 tn (fun i => ((gd t i : Nat) : Int)) ∧ (ta = none → tc = 0) := by
               obtain ⟨a', b', off', c', e, hv, h1, h2, h3⟩ := HT.out.1
               injection e with e1 e2 e3
               subst e1
               subst e3
               have hv' := hv.below (ch H6.out.2.2 b7)
               rw [← e2] at hv'
               exact ⟨b', off', hv', h2⟩
             obtain ⟨tb, t0, hvt, htn0⟩ := hV
             have H7 : Hid (w7.ownsRow w6.heap.size 5 1 (.slice xa7 bn xc7) bn (bv (flat Q)) ∧ View w7 ta tb t0 tn (fun i => ((gd t i : Nat) : Int)) ∧ (ta = none → tc = 0) ∧ Below w6.heap.size w6 w7) := ⟨own7', hvt, htn0, b7⟩
             clear own7 own7' gr7 nn7 b7 hvt htn0 HO HVB
             go_wp2_with (at_builtin; go_loud (refine wpList_append_bytes (by rfl) (.tmp 153) (.tmp 154) (by rfl) w6.heap.size _ bn _ (by rfl) H7.out.1 ta tb t0 tn tc _ (by rfl) H7.out.2.1 H7.out.2.2.1 (by omega) H7.out.2.2.2.size ?_))
             intro x8 w8 own8 gr8 nn8
             have b8 : Below w6.heap.size w6 w8 := H7.out.2.2.2.trans (grown_below gr8 H7.out.1 (Nat.le_refl _) H7.out.2.2.2.size)
             have hGl : (flat Q ++ t).length = bn + tn := by rw [List.length_append, hfl, HTN.out]
             have hA : Ans w6 w8 x8 (flat Q ++ t) := by
               refine ⟨?_, fun x hx => ?_, by rw [hGl]; omega, b8⟩
               · rw [hGl, bv_app, ← vals_bv t, ← HTN.out]
                 exact own8
               · rcases List.mem_append.1 hx with q | q
                 · exact HB.out x q
                 · exact vb_byt HT.out.1 x q
             obtain ⟨R, hRe⟩ : ∃ R, R = Q ++ scP t := ⟨_, rfl⟩
             have hscR : scP (flat Q ++ t) = R := by rw [hRe]; exact (sc_flat Q HQ16.out t).1
             have hRl : R.length ≤ bn + tn := by
               have := scP_len (flat Q ++ t)
               rw [hscR, hGl] at this
               exact this
             have hR16 : ∀ p ∈ R, p.length ≤ 16384 := by rw [← hscR]; exact (sc_back _ (flat Q ++ t) (Nat.le_refl _)).1
             have hback : flat R = (flat Q ++ t).take (tot R) ∧ tot R ≤ bn + tn := by
               have := (sc_back _ (flat Q ++ t) (Nat.le_refl _)).2
               rw [hscR, hGl] at this
               exact this
             have HRR : Hid (R.take ql = Q ∧ ql ≤ R.length ∧ (∀ p ∈ R, p.length ≤ 16384) ∧ flat R = (flat Q ++ t).take (tot R) ∧ tot R ≤ bn + tn ∧ scP (flat Q ++ t) = R ∧ (flat Q ++ t).length = bn + tn) := ⟨by rw [hRe, HL.out.1, List.take_left], by rw [hRe, List.length_append, HL.out.1]; omega, hR16, hback.1, hback.2, hscR, hGl⟩
             obtain ⟨xa8, xc8, q1⟩ := own_slice own8
             subst q1
             have H8 : Hid (Ans w6 w8 (.slice xa8 (bn + tn) xc8) (flat Q ++ t) ∧ Below w6.heap.size w6 w8) := ⟨hA, b8⟩
             clear own8 gr8 nn8 b8 hA hGl hRe hscR hR16 hback H7
             go_wp2_with fail
             refine (scan_vb (s := flat Q ++ t) H8.out.1.vb (by rw [HRR.out.2.2.2.2.2.2]; omega)).mono ?_
             rintro e w9 ⟨u, ue, rfl, ⟨U9, g9⟩, i9, b9⟩
             rw [HRR.out.2.2.2.2.2.1] at g9 i9
             obtain ⟨ga, gc, q1⟩ := own_slice g9.own
             obtain ⟨gea, gec, q2⟩ := own_slice i9
             subst q1
             subst q2
             have hgc : R.length ≤ gc := by
               rcases g9.own.2 with ⟨e, h0⟩ | ⟨g, cap, cur, e, _, _, h1, _⟩
               · injection e with _ _ e; omega
               · injection e with _ _ e; omega
             obtain ⟨E9, hE9⟩ : ∃ E, E = scE (flat Q ++ t) := ⟨_, rfl⟩
             rw [← hE9]
             clear hE9
             have hel : (edF 0 R).length = R.length := edF_len 0 R
             obtain ⟨rl, erl⟩ : ∃ k, k = R.length := ⟨_, rfl⟩
             have HRL : Hid (rl = R.length ∧ (edF 0 R).length = R.length) := ⟨erl, hel⟩
             have H9 : Hid (Gl w9 w8.heap.size (.slice ga rl gc) U9 R ∧ Iv w9 (.slice gea rl gec) (edF 0 R) ∧ Vb w9 (.slice xa8 (bn + tn) xc8) (flat Q ++ t) ∧ Lv w9 (.slice la ql lc) Q ∧ Below w.heap.size w w9) := by
               refine ⟨by rw [erl]; exact g9, ?_, H8.out.1.vb.keep b9, (H6.out.2.1.keep H8.out.2).keep b9, ch (ch H6.out.2.2 H8.out.2) b9⟩
               have := gi_iv i9 (by rw [hel]; omega)
               rw [hel, ← erl] at this
               exact this
             rw [hel, ← erl]
             rw [← erl] at hRl hgc
             clear g9 i9 b9 hel erl H8 H6
             have hqr : ql ≤ rl := by have := HRR.out.2.1; have := HRL.out.1; omega
             have i28 : ¬ (rl : Int) < (ql : Int) := by omega
             have j4 : ∀ u, (Instr.slice 22 (.slice ga rl gc) none (some (.int .i64 ql)) none).run Try.prog u = .ok (.slice ga ql gc) u := fun u => slice_uptoL ga rl gc ql (by omega) u
             have HK3 : Hid (Calls Try.prog 8 #[.slice ga ql gc, .slice la ql lc] w9 fun e w' => e = .returned (.bool true) ∧ Below w9.heap.size w9 w') := by
               have h1 := (H9.out.1.lv (by have := HRL.out.1; omega)).pre ql HRR.out.2.1
               rw [HRR.out.1] at h1
               exact sameL_yes h1 H9.out.2.2.2.1
             go_wp2_with fail
             refine HK3.out.mono ?_
             rintro e w10 ⟨rfl, b10⟩
             have H10 : Hid (Gl w10 w8.heap.size (.slice ga rl gc) U9 R ∧ Iv w10 (.slice gea rl gec) (edF 0 R) ∧ Vb w10 (.slice xa8 (bn + tn) xc8) (flat Q ++ t) ∧ Below w.heap.size w w10) := ⟨H9.out.1.below b10, H9.out.2.1.keep b10, H9.out.2.2.1.keep b10, ch H9.out.2.2.2.2 b10⟩
             clear b10 HK3 H9 j4
             have HG : Hid (∀ i, i < rl → ∃ gb go_ eb2 eo2 a n c s, ga = some ⟨gb, go_, none⟩ ∧ gea = some ⟨eb2, eo2, none⟩ ∧ R[i]? = some s ∧ w10.cell? ⟨gb, go_ + i, none⟩ = some (.slice a n c) ∧ Vb w10 (.slice a n c) s ∧ w10.cell? ⟨eb2, eo2 + i, none⟩ = some (.int .i64 ((tot (R.take (i + 1)) : Nat) : Int))) := fun i hi => by
               obtain ⟨a1, b1, o1, c1, Us1, e1, h1, h2, h3, h4, _⟩ := H10.out.1.lv (by have := HRL.out.1; omega)
               obtain ⟨a2, b2, o2, c2, e2, g1, g2, _⟩ := H10.out.2.1
               injection e1 with e1 _ _
               injection e2 with e2 _ _
               subst e1
               subst e2
               have hiR : i < R.length := by have := HRL.out.1; omega
               have q1 := List.getElem?_eq_getElem (l := Us1) (i := i) (by omega)
               have q2 := List.getElem?_eq_getElem (l := R) (i := i) hiR
               have v := h4 i _ _ q1 q2
               have c := h3 i _ q1
               have vv := v
               obtain ⟨a, b, off, cc, e, _⟩ := v
               rw [e] at c vv
               refine ⟨b1, o1, b2, o2, a, _, cc, _, h2 (by omega), g1 (by rw [edF_len]; omega), q2, c, vv, ?_⟩
               rw [g2 i (by rw [edF_len]; exact hiR), edF_at R 0 i hiR, Nat.zero_add]
             go_wp2_with fail
             clear i28 hqr
             generalize decide (rl < ql) = B28
             go_loopg [21, 22] rl (fun g va ii wr => ∃ i : Nat, i ≤ rl ∧ g = rl - i ∧ ii = .int .i64 (i : Nat) ∧ wr.ownsRow w10.heap.size 5 1 va (tot (R.take i)) (bv (flat (R.take i))) ∧ Below w10.heap.size w10 wr)
             case atStart => exact ⟨0, Nat.zero_le _, rfl, rfl, World.ownsRow_nil _ _ _ _, Below.refl _ _⟩
             case round =>
               obtain ⟨i, hi, rfl, rfl, hown, hb⟩ := hrel
               obtain ⟨aa, ac, q1⟩ := own_slice hown
               subst q1
               have HO : Hid (wr.ownsRow w10.heap.size 5 1 (.slice aa (tot (R.take i)) ac) (tot (R.take i)) (bv (flat (R.take i))) ∧ Below w10.heap.size w10 wr) := ⟨hown, hb⟩
               have htr : tot (R.take i) ≤ tot R := by
                 have := tot_take_le R i R.length (by have := HRL.out.1; omega)
                 rw [List.take_of_length_le (Nat.le_refl R.length)] at this
                 exact this
               have htr2 : tot (R.take i) ≤ bn + tn := by have := HRR.out.2.2.2.2.1; omega
               obtain ⟨an, ean⟩ : ∃ k, k = tot (R.take i) := ⟨_, rfl⟩
               have HAN : Hid (an = tot (R.take i)) := ean
               rw [← ean] at HO htr2 ⊢
               clear hown hb ean htr
               by_cases hir : i < rl
               · have i1 : (i : Int) < (rl : Int) := by omega
                 obtain ⟨gb, go_, eb2, eo2, pa2, pn2, pc2, s, rfl, rfl, hs, c1, hv, c2⟩ := HG.out i hir
                 have c1' : wr.cell? ⟨gb, go_ + i, none⟩ = some (.slice pa2 pn2 pc2) := (HO.out.2.cell (p := ⟨gb, go_ + i, none⟩) (World.block_lt_of_cell? _ _ c1)).trans c1
                 have hs16 : s.length ≤ 16384 := HRR.out.2.2.1 s (List.mem_of_getElem? hs)
                 have hiR : i < R.length := by have := HRL.out.1; omega
                 have esn : R.take (i + 1) = R.take i ++ [s] := by
                   rw [List.take_succ_eq_append_getElem hiR]
                   rw [List.getElem?_eq_getElem hiR] at hs
                   rw [Option.some.inj hs]
                 have HS : Hid (R.take (i + 1) = R.take i ++ [s] ∧ Vb wr (.slice pa2 pn2 pc2) s ∧ w10.cell? ⟨eb2, eo2 + i, none⟩ = some (.int .i64 ((tot (R.take (i + 1)) : Nat) : Int)) ∧ wrE s = 0 ∧ wrR s = frm s ∧ s.length ≤ 16384) := ⟨esn, hv.keep HO.out.2, c2, if_pos hs16, if_pos hs16, hs16⟩
                 clear hs c1 hv c2 hs16 esn
                 go_wp2_with fail
                 refine (wrap_vb HS.out.2.1).mono ?_
                 rintro e w11 ⟨u11, rfl, h11⟩
                 rw [HS.out.2.2.2.1]
                 rw [HS.out.2.2.2.2.1] at h11
                 obtain ⟨fa, fb, fc, e11, hv11, _, hn11⟩ := h11.view
                 have hfn : (frm s).length = 7 + s.length := frm_len s
                 have O11 : w11.ownsRow w10.heap.size 5 1 (.slice aa an ac) an (bv (flat (R.take i))) := own_turn HO.out.1 (Turn.of_below (F := fun _ => False) h11.below) (fun _ _ q => q)
                 have B11 : Below w10.heap.size w10 w11 := ch HO.out.2 h11.below
                 obtain ⟨fn, efn⟩ : ∃ k, k = (frm s).length := ⟨_, rfl⟩
                 have HFN : Hid (fn = (frm s).length) := efn
                 unfold Vw at hv11
                 rw [← efn] at e11 hv11
                 have hfn2 : fn ≤ 16391 := by have := HS.out.2.2.2.2.2; omega
                 subst e11
                 have H11 : Hid (w11.ownsRow w10.heap.size 5 1 (.slice aa an ac) an (bv (flat (R.take i))) ∧ Below w10.heap.size w10 w11 ∧ View w11 fa fb 0 fn (fun i => ((gd (frm s) i : Nat) : Int)) ∧ (fa = none → fc = 0)) := ⟨O11, B11, hv11, hn11⟩
                 clear h11 hv11 hn11 O11 B11 efn hfn HO c1'
                 go_wp2_with (at_builtin; go_loud (refine wpList_append_bytes (by rfl) (.tmp 199) (.tmp 200) (by rfl) w10.heap.size _ an _ (by rfl) H11.out.1 fa fb 0 fn fc _ (by rfl) H11.out.2.2.1 H11.out.2.2.2 (by omega) H11.out.2.1.size ?_))
                 intro x12 w12 own12 gr12 nn12
                 have B12 : Below w10.heap.size w10 w12 := H11.out.2.1.trans (grown_below gr12 H11.out.1 (Nat.le_refl _) H11.out.2.1.size)
                 have et : tot (R.take (i + 1)) = an + fn := by rw [HS.out.1, tot_snoc, HAN.out, HFN.out, frm_len]
                 have O12 : w12.ownsRow w10.heap.size 5 1 x12 (an + fn) (bv (flat (R.take (i + 1)))) := by
                   rw [HS.out.1, flat_snoc, bv_app, ← vals_bv (frm s), ← HFN.out]
                   exact own12
                 obtain ⟨xa12, xc12, q1⟩ := own_slice O12
                 subst q1
                 have c2 : w12.cell? ⟨eb2, eo2 + i, none⟩ = some (.int .i64 ((an : Int) + (fn : Int))) := by
                   have c := HS.out.2.2.1
                   rw [et] at c
                   rw [B12.cell (p := ⟨eb2, eo2 + i, none⟩) (World.block_lt_of_cell? _ _ c), c]
                   congr 2
                 have H12 : Hid (w12.ownsRow w10.heap.size 5 1 (.slice xa12 (an + fn) xc12) (tot (R.take (i + 1))) (bv (flat (R.take (i + 1)))) ∧ Below w10.heap.size w10 w12) := ⟨by rw [et]; exact O12, B12⟩
                 clear own12 gr12 nn12 B12 et O12 H11
                 go_wp2_with fail
                 go_roundg (rl - (i + 1))
                 case measure => omega
                 case rel => exact ⟨i + 1, by omega, rfl, by go_num, H12.out.1, H12.out.2⟩
               · have eir : i = rl := by omega
                 have i1 : ¬ (i : Int) < (rl : Int) := by omega
                 have eR : R.take i = R := List.take_of_length_le (by have := HRL.out.1; omega)
                 have hac : an ≤ ac := by
                   rcases HO.out.1.2 with ⟨e, h0⟩ | ⟨g, cap, cur, e, _, _, h1, _⟩
                   · injection e with _ _ e; omega
                   · injection e with _ _ e; omega
                 have HF : Hid (Vb wr (.slice aa an ac) (flat R) ∧ Vb wr (.slice xa8 an xc8) (flat R) ∧ Below w.heap.size w wr) := by
                   have ho := HO.out.1
                   have han := HAN.out
                   rw [eR] at ho han
                   have hfr : (flat R).length = an := by rw [flat_len, han]
                   have h2 : Vb wr (.slice xa8 an xc8) (flat R) := by
                     have h := (H10.out.2.2.1.keep HO.out.2).pre an (by have := HRR.out.2.2.2.2.2.2; omega)
                     rw [han, ← HRR.out.2.2.2.1, ← han] at h
                     exact h
                   refine ⟨?_, h2, ch H10.out.2.2.2 HO.out.2⟩
                   have hstr : Str wr Any (.slice aa an ac) (flat R) := ⟨by rw [hfr]; exact own_base ho, fun _ _ => trivial, ⟨by omega, vb_byt h2⟩⟩
                   exact hstr.vb (by omega)
                 have hxc : bn + tn ≤ xc8 := by
                   obtain ⟨a', b', off', c', e, hv, h1, _⟩ := H10.out.2.2.1
                   injection e with _ e2 e3
                   omega
                 have j5 : ∀ u, (Instr.slice 23 (.slice xa8 (bn + tn) xc8) none (some (.int .i64 an)) none).run Try.prog u = .ok (.slice xa8 an xc8) u := fun u => slice_upto xa8 (bn + tn) xc8 an (by omega) u
                 have i2 : (an : Int) ≤ (bn : Int) + (tn : Int) := by omega
                 clear HO eir eR
                 go_wp2_with fail
                 refine (same_yes HF.out.1 HF.out.2.1 rfl).mono ?_
                 rintro e w13 ⟨rfl, b13⟩
                 have H13 : Hid (Below w.heap.size w w13) := ch HF.out.2.2 b13
                 clear b13 HF
                 go_wp2_with fail
                 refine (fixed_any w13).mono ?_
                 rintro e w14 ⟨rfl, b14⟩
                 have H14 : Hid (Below w.heap.size w w14) := ch H13.out b14
                 clear b14 H13
                 go_wp2_with fail
                 go_ret
                 exact ⟨rfl, H14.out⟩
end Go.Proofs.Ytnknhjabebcmeaa
