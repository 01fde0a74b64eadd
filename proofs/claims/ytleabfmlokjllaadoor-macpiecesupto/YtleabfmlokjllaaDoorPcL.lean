/-
  MacPieces: the law.
-/
import Derived.Test.YtleabfmlokjllaaDoorPcA
namespace Go.Proofs.YtleabfmlokjllaaDoor
open Go.RowKit

theorem wp_append_bytes {w : World} {o : Oper} {a : Act} {K : Act → World → Prop} {Q : Exit → Act → World → Prop} (s x : Operand)
    (ho : o.op = .call { callee := .builtin .append, args := #[s, x], argTypes := #[22, 22] }) (base : Nat) (v : Value) (k : Nat) (xs : List Value) (hs : a.eval s = v) (hown : w.ownsRow base 5 1 v k xs)
    (sa : Option Addr) (b off n c : Nat) (Y : Nat → Int) (hx : a.eval x = .slice sa n c) (hv : View w sa b off n Y) (hnil : sa = none → c = 0) (hk : k + n ≤ 140737488355328) (hbase : base ≤ w.heap.size)
    (h : ∀ v' w', w'.ownsRow base 5 1 v' (k + n) (xs ++ vals Y n) → w.grownBy w' v.ownBlock → (v' = .slice none 0 0 → v = .slice none 0 0) → K (a.put o.dst v') w') : Oper.wp Tryd.prog o a w K Q := by
  obtain ⟨i0, hi0, hz0, hz1, hz2⟩ := info_parts Tryd.info5
  cases sa with
  | none =>
    have hn : n = 0 := by
      rcases Nat.eq_zero_or_pos n with e | e
      · exact e
      · cases hv.at_ e
    subst hn
    obtain rfl := hnil rfl
    have hrun := run_append_owned_none (P := Tryd.prog) (w := w) base 22 o.type 5 i0 1 Tryd.underlying22 hi0 v k xs hown
    unfold Oper.wp
    simp [execOp, ho, resolve, invoke, builtin, hs, hx, hrun, Result.andThen]
    refine h v w ?_ ⟨rfl, rfl, rfl, Nat.le_refl _, fun _ _ _ => rfl⟩ id
    simpa [vals] using hown
  | some p =>
    refine wp_append_own _ s x 22 ho base 5 i0 (.int .u8 0) 1 1 Tryd.underlying22 hi0 hz0 hz1 hz2 rfl (by decide) v k xs hs hown p n c (vals Y n) hx (by simp [vals]) ?_ vals_one (by unfold maxLen; omega) (by omega) hbase (fun v' w' h1 h2 h3 => h v' w' h1 h2 (fun e => (h3.1 e).1))
    intro j u hu
    obtain ⟨hj, rfl⟩ := vals_cell hu
    have hp : p = ⟨b, off, none⟩ := Option.some.inj (hv.at_ (by omega))
    subst hp
    rw [Go.WideShapes.add_plain]
    exact hv.cell j hj
theorem wpList_append_bytes_g {w : World} {ops : Array Oper} {rest : List Oper} {o : Oper} {a : Act} {Q : Exit → Act → World → Prop} (hgd : Region.wanted o (yielded ops a.tmps) = true) (s x : Operand)
    (ho : o.op = .call { callee := .builtin .append, args := #[s, x], argTypes := #[22, 22] }) (base : Nat) (v : Value) (k : Nat) (xs : List Value) (hs : a.eval s = v) (hown : w.ownsRow base 5 1 v k xs)
    (sa : Option Addr) (b off n c : Nat) (Y : Nat → Int) (hx : a.eval x = .slice sa n c) (hv : View w sa b off n Y) (hnil : sa = none → c = 0) (hk : k + n ≤ 140737488355328) (hbase : base ≤ w.heap.size)
    (h : ∀ v' w', w'.ownsRow base 5 1 v' (k + n) (xs ++ vals Y n) → w.grownBy w' v.ownBlock → (v' = .slice none 0 0 → v = .slice none 0 0) → wpList Tryd.prog ops Q rest (a.put o.dst v') w') : wpList Tryd.prog ops Q (o :: rest) a w :=
  Go.BigFrame.wpList_want hgd fun _ hK => wp_append_bytes s x ho base v k xs hs hown sa b off n c Y hx hv hnil hk hbase (fun v' w' h1 h2 h3 => hK _ _ (h v' w' h1 h2 h3))

set_option maxRecDepth 100000 in
set_option maxHeartbeats 4000000 in
theorem pieces_law (W : World) (Sa : Option Addr) (sb so n sc : Nat) (S : Nat → Nat) (hvS : View W Sa sb so n (fun i => (S i : Int))) (hsc : n ≤ sc) (hS : ∀ i, S i < 256) (hSn : Sa = none → sc = 0) (hn : n ≤ 1048576)
    (pa : Option Addr) (pb po k pcap : Nat) (A : Nat → Option Addr) (b off m c : Nat → Nat) (Y : Nat → Nat → Nat) (P : Parts W pa pb po k A b off m c Y) (hPn : ∀ i, i < k → A i = none → c i = 0) (hk : k ≤ 1048576) (htot : tot m k ≤ 1048576)
    (ta : Option Addr) (tb to tn tc : Nat) (TY : Nat → Nat) (hvT : View W ta tb to tn (fun i => (TY i : Int))) (htc : tn ≤ tc) (hTY : ∀ i, TY i < 256) (hTn : ta = none → tc = 0) (htn : tn ≤ 1048576) (hG : Ground W) :
    Calls Tryd.prog 4 #[.slice Sa n sc, .slice pa k pcap, .slice ta tn tc] W fun e w' => e = .returned (.bool true) ∧ Below W.heap.size W w' := by
  have HA : Hid (View W Sa sb so n (fun i => (S i : Int)) ∧ View W ta tb to tn (fun i => (TY i : Int)) ∧ Ground W) := ⟨hvS, hvT, hG⟩
  have HP : Hid (Parts W pa pb po k A b off m c Y) := P
  have HS : Hid (∀ i, S i < 256) := hS
  have HY : Hid (∀ i, TY i < 256) := hTY
  have HPn : Hid (∀ i, i < k → A i = none → c i = 0) := hPn
  clear hvS hvT hG P hS hTY hPn
  go_enter Tryd.func4, Tryd.ntmps4
  go_wp2_with fail
  refine (known_any W kS2 kT2 1541194054 67 (by decide) (by decide) HA.out.2.2 kD2 kcode2 kfirst2 klast2).mono ?_
  rintro _ w1 ⟨rfl, hb1⟩
  have own0 := World.ownsRow_lit (base := w1.heap.size) (e := 5) (size := 1) w1 #[] 0 (Nat.le_refl _) (by decide) rfl
  have HB1 : Hid (Below W.heap.size W w1) := hb1
  have HVS : Hid (View (w1.alloc (.cells #[] 5)) Sa sb so n (fun i => (S i : Int))) := HA.out.1.below (hb1.trans (((Below.refl _ _).alloc (Nat.le_refl _) _).mono hb1.size))
  clear hb1
  go_wp2_with (refine wpList_append_bytes (by rfl) (.tmp 15) (.tmp 16) (by rfl) w1.heap.size _ 0 [] (by rfl) own0 Sa sb so n sc _ (by rfl) HVS.out hSn (by omega) (by simp) ?_)
  intro v2 w2 own2 gr2 nn2
  have b12 : Below w1.heap.size w1 w2 := ((Below.refl _ _).alloc (Nat.le_refl _) _).trans (grown_below gr2 own0 (Nat.le_refl _) (by simp))
  replace own2 : w2.ownsRow w1.heap.size 5 1 v2 n (vals (fun i => (S i : Int)) n) := by simpa using own2
  obtain ⟨g2, c2, rfl, hc2, hB2, hl2⟩ := own_some own2 (fun e => by have := nn2 e; simp at this)
  have bw2 : Below W.heap.size W w2 := ch HB1.out b12
  have v2 : View w2 (some ⟨g2, 0, none⟩) g2 0 n (fun i => (S i : Int)) := ⟨fun _ => rfl, fun i hi => by rw [Nat.zero_add, own2.cellAt i (by omega)]; simp [vals, hi], fun i _ => by have := HS.out i; omega, by omega⟩
  have cn := mnew_any w2 (some ⟨g2, 0, none⟩) g2 0 n c2 S v2 hc2 HS.out (HA.out.2.2.below bw2)
  have HB2 : Hid (Below W.heap.size W w2) := bw2
  clear own0 own2 gr2 nn2 b12 v2 bw2 HVS HB1
  go_wp2_with fail
  refine cn.mono ?_
  rintro _ w3 ⟨p, rfl, hp, kd3, hb3⟩
  have loP : W.heap.size ≤ p := by have := HB2.out.size; omega
  have H3 : Hid (Pc W w3 p (blk n S) (tot m 0) (jn m Y 0) (.slice none 0 0)) := ⟨ch HB2.out hb3, kd3, loP, World.ownsRow_nil _ _ _ _⟩
  clear kd3 hb3 cn HB2
  go_wp2_with fail
  go_loopg [8, 23] k (fun g v i wr => ∃ j : Nat, j ≤ k ∧ g = k - j ∧ i = .int .i64 j ∧ Pc W wr p (blk n S) (tot m j) (jn m Y j) v)
  case atStart => exact ⟨0, by omega, rfl, rfl, H3.out⟩
  case round =>
    obtain ⟨j, hj, rfl, rfl, hR⟩ := hrel
    clear H3
    have tm := tot_mono m hj
    have HR0 : Hid (Pc W wr p (blk n S) (tot m j) (jn m Y j) u8) := hR
    obtain ⟨a8, g8, c8, rfl, v8, hc8, hn8, hg8⟩ := hR.view (by omega)
    have HV8 : Hid (View wr a8 g8 0 (tot m j) (fun i => ((jn m Y j i : Nat) : Int))) := v8
    have Hjx : Hid (∀ i, jn m Y j i < 256) := hR.kd.bx
    obtain ⟨X, hX⟩ : ∃ X, X = jn m Y j := ⟨_, rfl⟩
    obtain ⟨t, ht⟩ : ∃ t, t = tot m j := ⟨_, rfl⟩
    have HXT : Hid (X = jn m Y j ∧ t = tot m j) := ⟨hX, ht⟩
    rw [← hX, ← ht] at HR0 HV8
    rw [← hX] at Hjx
    rw [← ht] at tm hc8 hg8
    rw [← ht]
    clear hR v8 hX ht
    by_cases hjk : j < k
    · obtain rfl := HP.out.at_ (by omega)
      have cj : wr.cell? ⟨pb, po + j, none⟩ = some (.slice (A j) (m j) (c j)) := (HP.out.below HR0.out.below).cell j hjk
      have vj : View wr (A j) (b j) (off j) (m j) (fun i => (Y j i : Int)) := (HP.out.below HR0.out.below).view j hjk
      have capj := HP.out.cap j hjk
      have nilj := HPn.out j hjk
      have lj : t + m j ≤ 1048576 := by have := tot_mono m (show j + 1 ≤ k by omega); simp only [tot] at this; have := HXT.out.2; omega
      have HVj : Hid (View wr (A j) (b j) (off j) (m j) (fun i => (Y j i : Int))) := vj
      clear vj
      by_cases hbr : 4000 < t
      · have k1 : (4000 : Int) < (t : Int) := by omega
        go_wp2_with fail
        clear cj k1
        have rW := HR0.out.below.size
        have gW := HA.out.2.2.big
        have tbp : 0 < tn → tb ≠ p := fun h0 => by have := HA.out.2.1.lt h0; omega
        have g8p : 0 < t → g8 ≠ p := fun h0 e => kd_own HR0.out.kd HR0.out.own (by rw [HV8.out.at_ h0, e]; rfl)
        refine (mwrite_any wr p _ _ _ HR0.out.kd ta tb to tn tc TY (HA.out.2.1.below HR0.out.below) HY.out tbp htc (HA.out.2.2.below HR0.out.below) (by omega) (by omega)).mono ?_
        rintro _ w20 ⟨rfl, hs20, kd20⟩
        have b20 : Below W.heap.size W w20 := HR0.out.below.trans (hs20.below loP HR0.out.below.size)
        have H20 : Hid (Kd w20 p (blk n S) (t + tn) (cat t X TY) ∧ Below W.heap.size W w20 ∧ View w20 a8 g8 0 t (fun i => (X i : Int))) := ⟨kd20, b20, HV8.out.save hs20 g8p⟩
        clear hs20 kd20 b20 g8p tbp
        obtain ⟨D, hD⟩ : ∃ D, D = hmac (blk n S) (t + tn) (cat t X TY) := ⟨_, rfl⟩
        have ca := mcode_any w20 p _ _ _ H20.out.1 (HA.out.2.2.below H20.out.2.1) (by omega)
        rw [← hD] at ca
        have HD : Hid (D = hmac (blk n S) (t + tn) (cat t X TY)) := hD
        clear hD
        go_wp2_with fail
        refine ca.mono ?_
        rintro _ w21 ⟨rfl, hb21⟩
        have H21 : Hid (Below W.heap.size W w21 ∧ View w21 a8 g8 0 t (fun i => (X i : Int))) := ⟨ch H20.out.2.1 hb21, H20.out.2.2.below hb21⟩
        clear hb21 ca H20
        have ct := mcode_two w21 Sa sb so n sc S (HA.out.1.below H21.out.1) hsc HS.out a8 ta g8 0 t c8 tb to tn tc 22 2 X TY H21.out.2 (HA.out.2.1.below H21.out.1) hc8 htc Hjx.out HY.out (HA.out.2.2.below H21.out.1)
        rw [← HD.out] at ct
        go_wp2_with fail
        refine ct.mono ?_
        rintro _ w22 ⟨rfl, hb22⟩
        have H22 : Hid (Below W.heap.size W w22 ∧ View w22 a8 g8 0 t (fun i => (X i : Int))) := ⟨ch H21.out.1 hb22, H21.out.2.below hb22⟩
        clear hb22 ct H21
        have eqh := eq_hashA w22 D
        have bA : Below w22.heap.size w22 (w22.alloc (.cells #[] 5)) := (Below.refl _ _).alloc (Nat.le_refl _) _
        have bw := ch H22.out.1 bA
        have cf := mcode_four (w22.alloc (.cells #[] 5)) Sa sb so n sc S (HA.out.1.below bw) hsc HS.out a8 ta w22.heap.size g8 0 t c8 tb to tn tc 22 4 X TY (H22.out.2.below bA) (HA.out.2.1.below bw) hc8 htc Hjx.out HY.out (HA.out.2.2.below bw)
        rw [← HD.out, World.size_alloc] at cf
        have HbA : Hid (Below w22.heap.size w22 (w22.alloc (.cells #[] 5))) := bA
        clear bA bw
        go_wp2_with fail
        refine cf.mono ?_
        rintro _ w23 ⟨rfl, hb23⟩
        have b23 : Below w22.heap.size w22 w23 := HbA.out.trans (hb23.mono (by omega))
        have H23 : Hid (Below W.heap.size W w23 ∧ View w23 a8 g8 0 t (fun i => (X i : Int))) := ⟨ch H22.out.1 b23, H22.out.2.below b23⟩
        clear hb23 b23 cf H22 HbA eqh
        have own0 := World.ownsRow_lit (base := w23.heap.size) (e := 5) (size := 1) w23 #[] 0 (Nat.le_refl _) (by decide) rfl
        have HV23 : Hid (View (w23.alloc (.cells #[] 5)) a8 g8 0 t (fun i => (X i : Int))) := H23.out.2.below ((Below.refl _ _).alloc (Nat.le_refl _) _)
        go_wp2_with (refine wpList_append_bytes_g (by rfl) (.tmp 96) (.tmp 97) (by rfl) w23.heap.size _ 0 [] (by rfl) own0 a8 g8 0 t c8 _ (by rfl) HV23.out hn8 (by omega) (by simp) ?_)
        intro v24 w24 own24 gr24 nn24
        have b24 : Below w23.heap.size w23 w24 := ((Below.refl _ _).alloc (Nat.le_refl _) _).trans (grown_below gr24 own0 (Nat.le_refl _) (by simp))
        replace own24 : w24.ownsRow w23.heap.size 5 1 v24 t (vals (fun i => (X i : Int)) t) := by simpa using own24
        have HVT : Hid (View w24 ta tb to tn (fun i => (TY i : Int))) := HA.out.2.1.below (ch H23.out.1 b24)
        have HB24 : Hid (Below w23.heap.size w23 w24) := b24
        have s24 := b24.size
        clear own0 gr24 HV23 b24
        go_wp2_with (refine wpList_append_bytes_g (by rfl) (.tmp 98) (.tmp 99) (by rfl) w23.heap.size _ t _ (by rfl) own24 ta tb to tn tc _ (by rfl) HVT.out hTn (by omega) s24 ?_)
        intro v25 w25 own25 gr25 nn25
        rw [vals_cat2] at own25
        have b25 : Below w23.heap.size w23 w25 := HB24.out.trans (grown_below gr25 own24 (Nat.le_refl _) s24)
        obtain ⟨g25, c25, rfl, hc25, hB25, hl25⟩ := own_some own25 (fun e => (nn25 e).elim)
        have v25 : View w25 (some ⟨g25, 0, none⟩) g25 0 (t + tn) (fun i => ((cat t X TY i : Nat) : Int)) := ⟨fun _ => rfl, fun i hi => by rw [Nat.zero_add, own25.cellAt i (by omega)]; simp [vals, hi], fun i _ => by have := cat_lt (n := t) Hjx.out HY.out i; omega, by omega⟩
        have bw25 : Below W.heap.size W w25 := ch H23.out.1 b25
        have co := mcode_one w25 Sa sb so n sc S (HA.out.1.below bw25) hsc HS.out (some ⟨g25, 0, none⟩) g25 0 (t + tn) c25 22 1 (cat t X TY) v25 hc25 (cat_lt Hjx.out HY.out) (HA.out.2.2.below bw25)
        rw [← HD.out] at co
        have HB25 : Hid (Below W.heap.size W w25) := bw25
        clear own24 own25 gr25 nn24 nn25 b25 v25 bw25 H23 HB24 HVT s24
        go_wp2_with fail
        refine co.mono ?_
        rintro _ w26 ⟨rfl, hb26⟩
        have HF : Hid (Below W.heap.size W w26) := ch HB25.out hb26
        clear hb26 co HB25
        have eqh := eq_hashA w26 D
        go_wp2_with fail
        go_ret
        exact ⟨rfl, HF.out⟩
      · have k1 : (t : Int) ≤ 4000 := by omega
        have cc := mcopy_any wr p _ _ _ HR0.out.kd
        go_wp2_with fail
        refine cc.mono ?_
        rintro _ w4 ⟨q, rfl, hq, kq4, hb4⟩
        have P4 := HR0.out.step hb4
        have H4 : Hid (Pc W w4 p (blk n S) t X (.slice a8 t c8) ∧ Kd w4 q (blk n S) t X ∧ Below wr.heap.size wr w4 ∧ wr.heap.size ≤ q) := ⟨P4, kq4, hb4, hq⟩
        clear P4 kq4 hb4 cc cj k1
        obtain ⟨D1, hD1⟩ : ∃ D, D = hmac (blk n S) t X := ⟨_, rfl⟩
        have ca := mcode_any w4 q _ _ _ H4.out.2.1 (HA.out.2.2.below H4.out.1.below) (by omega)
        rw [← hD1] at ca
        have HD1 : Hid (D1 = hmac (blk n S) t X) := hD1
        clear hD1
        go_wp2_with fail
        refine ca.mono ?_
        rintro _ w5 ⟨rfl, hb5⟩
        have H5 : Hid (Pc W w5 p (blk n S) t X (.slice a8 t c8) ∧ Kd w5 q (blk n S) t X ∧ Below wr.heap.size wr w5) := ⟨H4.out.1.step hb5, H4.out.2.1.below hb5, ch H4.out.2.2.1 hb5⟩
        clear hb5 ca
        have ca := mcode_any w5 p _ _ _ H5.out.1.kd (HA.out.2.2.below H5.out.1.below) (by omega)
        rw [← HD1.out] at ca
        go_wp2_with fail
        refine ca.mono ?_
        rintro _ w6 ⟨rfl, hb6⟩
        have H6 : Hid (Pc W w6 p (blk n S) t X (.slice a8 t c8) ∧ Kd w6 q (blk n S) t X ∧ Below wr.heap.size wr w6) := ⟨H5.out.1.step hb6, H5.out.2.1.below hb6, ch H5.out.2.2 hb6⟩
        clear hb6 ca H5
        have eqh := eq_hashA w6 D1
        go_wp2_with fail
        have z6 := H6.out.1.below.size
        have lq : q < w6.heap.size := H6.out.2.1.lt
        have hqw := H4.out.2.2.2
        have rW := HR0.out.below.size
        have gW := HA.out.2.2.big
        have pw : p < wr.heap.size := HR0.out.kd.lt
        have bA : Below w6.heap.size w6 (w6.alloc (.cells #[.int .u8 ((j : Int) % 256)] 5)) := (Below.refl _ _).alloc (Nat.le_refl _) _
        have vb : View (w6.alloc (.cells #[.int .u8 ((j : Int) % 256)] 5)) (some ⟨w6.heap.size, 0, none⟩) w6.heap.size 0 1 (fun _ => ((j % 256 : Nat) : Int)) := (view_new1 w6 ((j : Int) % 256) (by omega) (by omega)).congr (fun i _ => by omega)
        have nq : (Value.slice a8 t c8).ownBlock ≠ some q := fun e => by have := (HR0.out.own.lt q e).2; omega
        refine (mwrite_any _ q _ _ _ (H6.out.2.1.below bA) (some ⟨w6.heap.size, 0, none⟩) w6.heap.size 0 1 1 (fun _ => j % 256) vb (fun _ => by omega) (fun _ => by omega) (Nat.le_refl _) (HA.out.2.2.below (ch H6.out.1.below bA)) (by omega) (by omega)).mono ?_
        rintro _ w7 ⟨rfl, hs7, kq7⟩
        have b67 : Below wr.heap.size wr w7 := (H6.out.2.2.trans (bA.mono H6.out.2.2.size)).trans (hs7.below hqw (by have := H6.out.2.2.size; simp; omega))
        have H7 : Hid (Pc W w7 p (blk n S) t X (.slice a8 t c8) ∧ Kd w7 q (blk n S) (t + 1) (cat t X (fun _ => j % 256)) ∧ Below wr.heap.size wr w7) := ⟨(H6.out.1.step bA).other hs7 (by omega) (by omega) nq, kq7, b67⟩
        clear bA vb hs7 kq7 b67 H6 eqh z6 lq H4 HD1
        obtain ⟨D2, hD2⟩ : ∃ D, D = hmac (blk n S) (t + 1) (cat t X (fun _ => j % 256)) := ⟨_, rfl⟩
        have ca := mcode_any w7 q _ _ _ H7.out.2.1 (HA.out.2.2.below H7.out.1.below) (by omega)
        rw [← hD2] at ca
        have HD2 : Hid (D2 = hmac (blk n S) (t + 1) (cat t X (fun _ => j % 256))) := hD2
        clear hD2
        go_wp2_with fail
        refine ca.mono ?_
        rintro _ w8 ⟨rfl, hb8⟩
        have H8 : Hid (Pc W w8 p (blk n S) t X (.slice a8 t c8) ∧ Below wr.heap.size wr w8) := ⟨H7.out.1.step hb8, ch H7.out.2.2 hb8⟩
        clear hb8 ca H7
        have bA : Below w8.heap.size w8 (w8.alloc (.cells #[.int .u8 ((j : Int) % 256)] 5)) := (Below.refl _ _).alloc (Nat.le_refl _) _
        have vb : View (w8.alloc (.cells #[.int .u8 ((j : Int) % 256)] 5)) (some ⟨w8.heap.size, 0, none⟩) w8.heap.size 0 1 (fun _ => ((j % 256 : Nat) : Int)) := (view_new1 w8 ((j : Int) % 256) (by omega) (by omega)).congr (fun i _ => by omega)
        have bw8 : Below W.heap.size W (w8.alloc (.cells #[.int .u8 ((j : Int) % 256)] 5)) := ch H8.out.1.below bA
        have ct := mcode_two (w8.alloc (.cells #[.int .u8 ((j : Int) % 256)] 5)) Sa sb so n sc S (HA.out.1.below bw8) hsc HS.out a8 (some ⟨w8.heap.size, 0, none⟩) g8 0 t c8 w8.heap.size 0 1 1 22 2 X (fun _ => j % 256) (HV8.out.below (H8.out.2.trans (bA.mono H8.out.2.size))) vb hc8 (Nat.le_refl _) Hjx.out (fun _ => by omega) (HA.out.2.2.below bw8)
        rw [← HD2.out, World.size_alloc] at ct
        have HbA : Hid (Below w8.heap.size w8 (w8.alloc (.cells #[.int .u8 ((j : Int) % 256)] 5))) := bA
        clear bA vb bw8
        go_wp2_with fail
        refine ct.mono ?_
        rintro _ w9 ⟨rfl, hb9⟩
        have b89 : Below w8.heap.size w8 w9 := HbA.out.trans (hb9.mono (by omega))
        have H9 : Hid (Pc W w9 p (blk n S) t X (.slice a8 t c8) ∧ Below wr.heap.size wr w9) := ⟨H8.out.1.step b89, ch H8.out.2 b89⟩
        clear hb9 b89 ct H8 HbA
        have eqh := eq_hashA w9 D2
        have own0 := World.ownsRow_lit (base := w9.heap.size) (e := 5) (size := 1) w9 #[] 0 (Nat.le_refl _) (by decide) rfl
        have HVp : Hid (View (w9.alloc (.cells #[] 5)) (A j) (b j) (off j) (m j) (fun i => (Y j i : Int))) := HVj.out.below (H9.out.2.trans (((Below.refl _ _).alloc (Nat.le_refl _) _).mono H9.out.2.size))
        go_wp2_with (refine wpList_append_bytes (by rfl) (.tmp 58) (.tmp 59) (by rfl) w9.heap.size _ 0 [] (by rfl) own0 (A j) (b j) (off j) (m j) (c j) _ (by rfl) HVp.out nilj (by omega) (by simp) ?_)
        intro v10 w10 own10 gr10 nn10
        have b910 : Below w9.heap.size w9 w10 := ((Below.refl _ _).alloc (Nat.le_refl _) _).trans (grown_below gr10 own0 (Nat.le_refl _) (by simp))
        replace own10 : w10.ownsRow w9.heap.size 5 1 v10 (m j) (vals (fun i => (Y j i : Int)) (m j)) := by simpa using own10
        obtain ⟨g10, c10, rfl, hc10, hB10, hl10⟩ := own_some own10 (fun e => by have := nn10 e; simp at this)
        have Hyj : Hid (∀ i, Y j i < 256) := HP.out.bd j
        have v10 : View w10 (some ⟨g10, 0, none⟩) g10 0 (m j) (fun i => (Y j i : Int)) := ⟨fun _ => rfl, fun i hi => by rw [Nat.zero_add, own10.cellAt i (by omega)]; simp [vals, hi], fun i _ => by have := Hyj.out i; omega, by omega⟩
        have z9 := H9.out.2.size
        have H10 : Hid (Pc W w10 p (blk n S) t X (.slice a8 t c8) ∧ Below wr.heap.size wr w10) := ⟨H9.out.1.step b910, ch H9.out.2 b910⟩
        have cw := mwrite_any w10 p _ _ _ H10.out.1.kd (some ⟨g10, 0, none⟩) g10 0 (m j) c10 (Y j) v10 Hyj.out (fun _ => by omega) hc10 (HA.out.2.2.below H10.out.1.below) (by omega) (by omega)
        clear own0 own10 gr10 nn10 b910 v10 HVp H9 eqh
        go_wp2_with fail
        refine cw.mono ?_
        rintro _ w11 ⟨rfl, hs11, kd11⟩
        have np := kd_own H10.out.1.kd H10.out.1.own
        have own11 : w11.ownsRow W.heap.size 5 1 (.slice a8 t c8) t (vals (fun i => (X i : Int)) t) := own_at_block H10.out.1.own (fun k' e => hs11.block k' (H10.out.1.own.lt k' e).2 (fun e2 => np (by rw [e, e2])))
        have bjp : 0 < m j → b j ≠ p := fun h0 => by have := (HP.out.view j hjk).lt h0; omega
        have b11 : Below W.heap.size W w11 := H10.out.1.below.trans (hs11.below loP H10.out.1.below.size)
        have HV11 : Hid (View w11 (A j) (b j) (off j) (m j) (fun i => (Y j i : Int))) := (HVj.out.below H10.out.2).save hs11 bjp
        have H11 : Hid (Kd w11 p (blk n S) (t + m j) (cat t X (Y j)) ∧ Below W.heap.size W w11) := ⟨kd11, b11⟩
        clear hs11 kd11 cw np bjp H10
        go_wp2_with (refine wpList_append_bytes (by rfl) (.tmp 62) (.tmp 63) (by rfl) W.heap.size _ t _ (by rfl) own11 (A j) (b j) (off j) (m j) (c j) _ (by rfl) HV11.out nilj (by omega) b11.size ?_)
        intro v12 w12 own12 gr12 nn12
        rw [vals_cat2] at own12
        have np := kd_own H11.out.1 own11
        have kd12 : Kd w12 p (blk n S) (t + m j) (cat t X (Y j)) := ⟨H11.out.1.st.of_block (gr12.block p H11.out.1.lt (fun e => np e.symm)), H11.out.1.bd, H11.out.1.bx⟩
        have P12 : Pc W w12 p (blk n S) (t + m j) (cat t X (Y j)) v12 := ⟨b11.trans (grown_below gr12 own11 (Nat.le_refl _) b11.size), kd12, loP, own12⟩
        obtain ⟨a12, g12, c12, rfl, v12, hc12, hn12, hg12⟩ := P12.view (by omega)
        have H12 : Hid (Pc W w12 p (blk n S) (t + m j) (cat t X (Y j)) (.slice a12 (t + m j) c12) ∧ View w12 a12 g12 0 (t + m j) (fun i => ((cat t X (Y j) i : Nat) : Int))) := ⟨P12, v12⟩
        clear own11 own12 gr12 nn12 np kd12 P12 v12 HV11 H11 b11
        obtain ⟨D3, hD3⟩ : ∃ D, D = hmac (blk n S) (t + m j) (cat t X (Y j)) := ⟨_, rfl⟩
        have ca := mcode_any w12 p _ _ _ H12.out.1.kd (HA.out.2.2.below H12.out.1.below) (by omega)
        rw [← hD3] at ca
        have HD3 : Hid (D3 = hmac (blk n S) (t + m j) (cat t X (Y j))) := hD3
        clear hD3
        go_wp2_with fail
        refine ca.mono ?_
        rintro _ w13 ⟨rfl, hb13⟩
        have H13 : Hid (Pc W w13 p (blk n S) (t + m j) (cat t X (Y j)) (.slice a12 (t + m j) c12) ∧ View w13 a12 g12 0 (t + m j) (fun i => ((cat t X (Y j) i : Nat) : Int))) := ⟨H12.out.1.step hb13, H12.out.2.below hb13⟩
        clear hb13 ca H12
        have co := mcode_one w13 Sa sb so n sc S (HA.out.1.below H13.out.1.below) hsc HS.out a12 g12 0 (t + m j) c12 22 1 (cat t X (Y j)) H13.out.2 hc12 (cat_lt Hjx.out Hyj.out) (HA.out.2.2.below H13.out.1.below)
        rw [← HD3.out] at co
        go_wp2_with fail
        refine co.mono ?_
        rintro _ w14 ⟨rfl, hb14⟩
        have HN : Hid (Pc W w14 p (blk n S) (tot m (j + 1)) (jn m Y (j + 1)) (.slice a12 (t + m j) c12)) := by
          have := H13.out.1.step hb14
          rw [HXT.out.1, HXT.out.2] at this
          rw [HXT.out.2]
          exact this
        clear hb14 co H13
        have eqh := eq_hashA w14 D3
        go_wp2_with fail
        go_roundg (k - (j + 1))
        case measure => omega
        case rel => exact ⟨j + 1, by omega, rfl, by go_num, HN.out⟩
    · have k1 : (k : Int) ≤ (j : Int) := by omega
      go_wp2_with fail
      clear k1
      have rW := HR0.out.below.size
      have gW := HA.out.2.2.big
      have tbp : 0 < tn → tb ≠ p := fun h0 => by have := HA.out.2.1.lt h0; omega
      have g8p : 0 < t → g8 ≠ p := fun h0 e => kd_own HR0.out.kd HR0.out.own (by rw [HV8.out.at_ h0, e]; rfl)
      refine (mwrite_any wr p _ _ _ HR0.out.kd ta tb to tn tc TY (HA.out.2.1.below HR0.out.below) HY.out tbp htc (HA.out.2.2.below HR0.out.below) (by omega) (by omega)).mono ?_
      rintro _ w20 ⟨rfl, hs20, kd20⟩
      have b20 : Below W.heap.size W w20 := HR0.out.below.trans (hs20.below loP HR0.out.below.size)
      have H20 : Hid (Kd w20 p (blk n S) (t + tn) (cat t X TY) ∧ Below W.heap.size W w20 ∧ View w20 a8 g8 0 t (fun i => (X i : Int))) := ⟨kd20, b20, HV8.out.save hs20 g8p⟩
      clear hs20 kd20 b20 g8p tbp
      obtain ⟨D, hD⟩ : ∃ D, D = hmac (blk n S) (t + tn) (cat t X TY) := ⟨_, rfl⟩
      have ca := mcode_any w20 p _ _ _ H20.out.1 (HA.out.2.2.below H20.out.2.1) (by omega)
      rw [← hD] at ca
      have HD : Hid (D = hmac (blk n S) (t + tn) (cat t X TY)) := hD
      clear hD
      go_wp2_with fail
      refine ca.mono ?_
      rintro _ w21 ⟨rfl, hb21⟩
      have H21 : Hid (Below W.heap.size W w21 ∧ View w21 a8 g8 0 t (fun i => (X i : Int))) := ⟨ch H20.out.2.1 hb21, H20.out.2.2.below hb21⟩
      clear hb21 ca H20
      have ct := mcode_two w21 Sa sb so n sc S (HA.out.1.below H21.out.1) hsc HS.out a8 ta g8 0 t c8 tb to tn tc 22 2 X TY H21.out.2 (HA.out.2.1.below H21.out.1) hc8 htc Hjx.out HY.out (HA.out.2.2.below H21.out.1)
      rw [← HD.out] at ct
      go_wp2_with fail
      refine ct.mono ?_
      rintro _ w22 ⟨rfl, hb22⟩
      have H22 : Hid (Below W.heap.size W w22 ∧ View w22 a8 g8 0 t (fun i => (X i : Int))) := ⟨ch H21.out.1 hb22, H21.out.2.below hb22⟩
      clear hb22 ct H21
      have eqh := eq_hashA w22 D
      have bA : Below w22.heap.size w22 (w22.alloc (.cells #[] 5)) := (Below.refl _ _).alloc (Nat.le_refl _) _
      have bw := ch H22.out.1 bA
      have cf := mcode_four (w22.alloc (.cells #[] 5)) Sa sb so n sc S (HA.out.1.below bw) hsc HS.out a8 ta w22.heap.size g8 0 t c8 tb to tn tc 22 4 X TY (H22.out.2.below bA) (HA.out.2.1.below bw) hc8 htc Hjx.out HY.out (HA.out.2.2.below bw)
      rw [← HD.out, World.size_alloc] at cf
      have HbA : Hid (Below w22.heap.size w22 (w22.alloc (.cells #[] 5))) := bA
      clear bA bw
      go_wp2_with fail
      refine cf.mono ?_
      rintro _ w23 ⟨rfl, hb23⟩
      have b23 : Below w22.heap.size w22 w23 := HbA.out.trans (hb23.mono (by omega))
      have H23 : Hid (Below W.heap.size W w23 ∧ View w23 a8 g8 0 t (fun i => (X i : Int))) := ⟨ch H22.out.1 b23, H22.out.2.below b23⟩
      clear hb23 b23 cf H22 HbA eqh
      have own0 := World.ownsRow_lit (base := w23.heap.size) (e := 5) (size := 1) w23 #[] 0 (Nat.le_refl _) (by decide) rfl
      have HV23 : Hid (View (w23.alloc (.cells #[] 5)) a8 g8 0 t (fun i => (X i : Int))) := H23.out.2.below ((Below.refl _ _).alloc (Nat.le_refl _) _)
      go_wp2_with (refine wpList_append_bytes_g (by rfl) (.tmp 96) (.tmp 97) (by rfl) w23.heap.size _ 0 [] (by rfl) own0 a8 g8 0 t c8 _ (by rfl) HV23.out hn8 (by omega) (by simp) ?_)
      intro v24 w24 own24 gr24 nn24
      have b24 : Below w23.heap.size w23 w24 := ((Below.refl _ _).alloc (Nat.le_refl _) _).trans (grown_below gr24 own0 (Nat.le_refl _) (by simp))
      replace own24 : w24.ownsRow w23.heap.size 5 1 v24 t (vals (fun i => (X i : Int)) t) := by simpa using own24
      have HVT : Hid (View w24 ta tb to tn (fun i => (TY i : Int))) := HA.out.2.1.below (ch H23.out.1 b24)
      have HB24 : Hid (Below w23.heap.size w23 w24) := b24
      have s24 := b24.size
      clear own0 gr24 HV23 b24
      go_wp2_with (refine wpList_append_bytes_g (by rfl) (.tmp 98) (.tmp 99) (by rfl) w23.heap.size _ t _ (by rfl) own24 ta tb to tn tc _ (by rfl) HVT.out hTn (by omega) s24 ?_)
      intro v25 w25 own25 gr25 nn25
      rw [vals_cat2] at own25
      have b25 : Below w23.heap.size w23 w25 := HB24.out.trans (grown_below gr25 own24 (Nat.le_refl _) s24)
      obtain ⟨g25, c25, rfl, hc25, hB25, hl25⟩ := own_some own25 (fun e => (nn25 e).elim)
      have v25 : View w25 (some ⟨g25, 0, none⟩) g25 0 (t + tn) (fun i => ((cat t X TY i : Nat) : Int)) := ⟨fun _ => rfl, fun i hi => by rw [Nat.zero_add, own25.cellAt i (by omega)]; simp [vals, hi], fun i _ => by have := cat_lt (n := t) Hjx.out HY.out i; omega, by omega⟩
      have bw25 : Below W.heap.size W w25 := ch H23.out.1 b25
      have co := mcode_one w25 Sa sb so n sc S (HA.out.1.below bw25) hsc HS.out (some ⟨g25, 0, none⟩) g25 0 (t + tn) c25 22 1 (cat t X TY) v25 hc25 (cat_lt Hjx.out HY.out) (HA.out.2.2.below bw25)
      rw [← HD.out] at co
      have HB25 : Hid (Below W.heap.size W w25) := bw25
      clear own24 own25 gr25 nn24 nn25 b25 v25 bw25 H23 HB24 HVT s24
      go_wp2_with fail
      refine co.mono ?_
      rintro _ w26 ⟨rfl, hb26⟩
      have HF : Hid (Below W.heap.size W w26) := ch HB25.out hb26
      clear hb26 co HB25
      have eqh := eq_hashA w26 D
      go_wp2_with fail
      go_ret
      exact ⟨rfl, HF.out⟩
end Go.Proofs.YtleabfmlokjllaaDoor
