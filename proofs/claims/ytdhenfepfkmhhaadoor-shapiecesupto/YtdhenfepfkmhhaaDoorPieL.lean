/-
  ShaPieces: the law.
-/
import Derived.Test.YtdhenfepfkmhhaaDoorPieW
namespace Go.Proofs.YtdhenfepfkmhhaaDoor
open Go.RowKit Go.Sort

/-- a list of integers -/
structure Ints (w : World) (a : Option Addr) (b off n : Nat) (C : Nat → Int) : Prop where
  at_ : 0 < n → a = some ⟨b, off, none⟩
  cell : ∀ i, i < n → w.cell? ⟨b, off + i, none⟩ = some (.int .i64 (C i))
theorem Ints.below {w w' : World} {a : Option Addr} {b off n : Nat} {C : Nat → Int} (h : Ints w a b off n C) (hb : Below w.heap.size w w') : Ints w' a b off n C :=
  ⟨h.at_, fun i hi => (hb.cell (World.block_lt_of_cell? _ _ (h.cell i hi))).trans (h.cell i hi)⟩

theorem sum_head (w : World) (g n c : Nat) (X : Nat → Nat) {B : Nat} (own : w.ownsRow B 5 1 (.slice (some ⟨g, 0, none⟩) n c) n (vals (fun i => (X i : Int)) n)) (hc : n ≤ c) (hX : ∀ i, X i < 256) (hn : n ≤ 1099511627776) (G : Ground w) :
    Calls Tryd.prog 15 #[.slice (some ⟨w.heap.size, 0, none⟩) 1 1] (w.alloc (.cells #[.slice (some ⟨g, 0, none⟩) n c] 24)) fun e w' => e = .returned (.agg (hashA (digest n X))) ∧ Below (w.alloc (.cells #[.slice (some ⟨g, 0, none⟩) n c] 24)).heap.size (w.alloc (.cells #[.slice (some ⟨g, 0, none⟩) n c] 24)) w' := by
  refine sum_one w (some ⟨g, 0, none⟩) g 0 n c 24 1 X ⟨fun _ => rfl, fun i hi => ?_, fun i hi => by have := hX i; omega, by omega⟩ hc hX G.first G.roots G.big
  rw [Nat.zero_add, own.cellAt i (by omega)]
  simp [vals, hi]

set_option maxRecDepth 100000 in
set_option maxHeartbeats 4000000 in
theorem pieces_law (w : World) (a : Option Addr) (bb bo N cb : Nat) (X : Nat → Nat) (ca : Option Addr) (kb ko K kc : Nat) (C : Nat → Int) (hv : View w a bb bo N (fun i => (X i : Int))) (hX : ∀ i, X i < 256) (hnil : a = none → cb = 0) (hcap : N ≤ cb) (hN : N ≤ 1048576) (hC : Ints w ca kb ko K C) (hK : K ≤ 1048576) (hg : Ground w) :
    Calls Tryd.prog 4 #[.slice a N cb, .slice ca K kc] w fun e w' => e = .returned (.bool true) ∧ Below w.heap.size w w' := by
  have HA : Hid (View w a bb bo N (fun i => (X i : Int)) ∧ Ints w ca kb ko K C ∧ Ground w) := ⟨hv, hC, hg⟩
  clear hv hC hg
  go_enter Tryd.func4, Tryd.ntmps4
  go_wp2_with fail
  refine (awake_any _ HA.out.2.2).mono ?_
  rintro _ w1 ⟨rfl, hb1⟩
  have HB : Hid (Below w.heap.size w w1) := hb1
  clear hb1
  go_wp2_with fail
  refine (new_any _ (HA.out.2.2.below HB.out).first).mono ?_
  rintro _ w2 ⟨rfl, st2, hb2⟩
  obtain ⟨p, hpd⟩ : ∃ p, p = w1.heap.size := ⟨_, rfl⟩
  rw [← hpd] at st2 ⊢
  have bw2 : Below w.heap.size w w2 := HB.out.trans (hb2.mono HB.out.size)
  have P0 : Pcs w w2 p 0 0 X (.slice none 0 0) (fun _ => 0) (fun _ => 0) (fun _ => 0) := Pcs.start bw2 (st2.congr hX (fun i hi => absurd hi (by omega))) (by rw [hpd]; exact HB.out.size)
  have L0 : Left w a bb bo N 0 cb X := ⟨HA.out.1.congr (fun i _ => by rw [Nat.zero_add]), hcap, hnil⟩
  have HS : Hid (Pcs w w2 p 0 0 X (.slice none 0 0) (fun _ => 0) (fun _ => 0) (fun _ => 0) ∧ Left w a bb bo N 0 cb X) := ⟨P0, L0⟩
  clear hpd st2 hb2 bw2 P0 L0 HB
  go_wp2_with fail
  go_loopg [6, 7, 8] K (fun g vp vl i wr => ∃ (k t : Nat) (gf cf mf : Nat → Nat) (al : Option Addr) (cl : Nat), k ≤ K ∧ t ≤ N ∧ g = K - k ∧ i = .int .i64 k ∧ vl = .slice al (N - t) cl ∧ Pcs w wr p k t X vp gf cf mf ∧ Left w al bb bo N t cl X)
  case atStart => exact ⟨0, 0, _, _, _, a, cb, by omega, by omega, rfl, rfl, rfl, HS.out.1, HS.out.2⟩
  case round =>
    obtain ⟨k, t, gf, cf, mf, al, cl, hk, ht, rfl, rfl, rfl, hP, hL⟩ := hrel
    clear HS
    by_cases hkK : k < K
    · have ci := HA.out.2.1.below hP.below
      obtain rfl := ci.at_ (by omega)
      have ck := ci.cell k hkK
      obtain ⟨n, hn⟩ : ∃ n : Nat, C k % (((N - t : Nat) : Int) + 1) = (n : Int) := ⟨(C k % (((N - t : Nat) : Int) + 1)).toNat, by have := Int.emod_nonneg (C k) (show (((N - t : Nat) : Int) + 1) ≠ 0 by omega); omega⟩
      have nle : n ≤ N - t := by have := Int.emod_lt_of_pos (C k) (show 0 < (((N - t : Nat) : Int) + 1) by omega); omega
      have r1 := fun w0 => rest_any w0 (C k) (((N - t : Nat) : Int) + 1) (by omega) (by omega)
      rw [hn] at r1
      have HP : Hid (Pcs w wr p k t X u6 gf cf mf ∧ Left wr al bb bo N t cl X ∧ Ground wr) := ⟨hP, hL.below hP.below, HA.out.2.2.below hP.below⟩
      have HLW : Hid (Left w al bb bo N t cl X) := hL
      have lcap := hL.cap
      clear hP hL ci hn
      go_wp2_with fail
      refine (r1 _).mono ?_
      rintro _ wx ⟨rfl, ex⟩
      subst ex
      clear r1
      have own0 := World.ownsRow_lit (base := wx.heap.size) (e := 5) (size := 1) wx #[] 0 (Nat.le_refl _) (by decide) rfl
      have bA : Below wx.heap.size wx (wx.alloc (.cells #[] 5)) := (Below.refl _ _).alloc (Nat.le_refl _) _
      have lv := HP.out.2.1.view
      have V0 : View (wx.alloc (.cells #[] 5)) al bb (bo + t) n (fun i => (X (t + i) : Int)) := (show View wx al bb (bo + t) n (fun i => (X (t + i) : Int)) from ⟨fun h => lv.at_ (by omega), fun i hi => lv.cell i (by omega), fun i hi => lv.bd i (by omega), by omega⟩).below bA
      have HV0 : Hid (View (wx.alloc (.cells #[] 5)) al bb (bo + t) n (fun i => (X (t + i) : Int))) := V0
      have j1 := slice_upto al (N - t) cl n (by omega)
      have j2 := sliceAt_upto al (N - t) cl n (by omega)
      have j3 := slice_from al (N - t) cl n nle
      have j4 := sliceAt_from al (N - t) cl n nle
      clear lv V0 bA ck
      go_wp2_with (refine wpList_append_bytes (by rfl) (.tmp 36) (.tmp 39) (by rfl) wx.heap.size _ 0 [] (by rfl) own0 al bb (bo + t) n cl _ (by rfl) HV0.out HP.out.2.1.nil (by omega) (by simp) ?_)
      intro v1 w4 own1 gr1 nn1
      have b4 : Below wx.heap.size wx w4 := ((Below.refl _ _).alloc (Nat.le_refl _) _).trans (grown_below gr1 own0 (Nat.le_refl _) (by simp))
      replace own1 : w4.ownsRow wx.heap.size 5 1 v1 n (vals (fun i => (X (t + i) : Int)) n) := by simpa using own1
      obtain ⟨gg, cg, rfl, hcg, hgB, hgl⟩ := own_some own1 (fun e => by have := nn1 e; simp at this)
      obtain ⟨al2, hal2⟩ : ∃ x, x = behind al cl n := ⟨_, rfl⟩
      rw [← hal2] at j3 j4
      have L4 := HLW.out.behind n nle
      rw [← hal2] at L4
      have HQ : Hid (Pcs w wx p k t X u6 gf cf mf ∧ Below wx.heap.size wx w4 ∧ (∀ j, j < n → w4.cell? ⟨gg, j, none⟩ = some (.int .u8 (X (t + j)))) ∧ Pcs w w4 p k t X u6 gf cf mf ∧ Left w al2 bb bo N (t + n) (cl - n) X ∧ Ground w4) := by
        refine ⟨HP.out.1, b4, fun j hj => ?_, HP.out.1.step b4, L4, HP.out.2.2.below b4⟩
        rw [own1.cellAt j (by omega)]
        simp [vals, hj]
      have vw : View w4 (some ⟨gg, 0, none⟩) gg 0 n (fun i => (X (t + i) : Int)) := ⟨fun _ => rfl, fun i hi => by rw [Nat.zero_add]; exact HQ.out.2.2.1 i hi, fun i hi => by have := hX (t + i); omega, by omega⟩
      have HVW : Hid (View w4 (some ⟨gg, 0, none⟩) gg 0 n (fun i => (X (t + i) : Int))) := vw
      have pw := HQ.out.1.st.lt
      clear own0 own1 gr1 nn1 HV0 L4 hal2 vw b4 HP
      go_wp2_with fail
      refine (write_any w4 p t X HQ.out.2.2.2.1.st _ gg 0 n cg (fun i => X (t + i)) HVW.out (fun i => hX _) (fun _ => by omega) hcg HQ.out.2.2.2.2.2.roots HQ.out.2.2.2.2.2.big (by have := HQ.out.1.lo; have := HA.out.2.2.big; omega) (by omega)).mono ?_
      rintro _ w5 ⟨rfl, hs5, st5⟩
      replace st5 : St w5 p (t + n) X := st5.congr hX (fun i _ => by
        unfold cat
        split
        · rfl
        · show X (t + (i - t)) = X i
          rw [show t + (i - t) = i by omega])
      have own5 : w5.ownsRow w.heap.size 24 1 u6 k (svals (F1 gf cf mf) k) := own_keep HQ.out.2.2.2.1.own (fun b e => hs5.block b (HQ.out.2.2.2.1.own.lt b e).2 (fun e2 => HQ.out.1.np (by rw [← e2]; exact e)))
      have lo5 : w.heap.size ≤ w5.heap.size := Nat.le_trans HQ.out.2.2.2.1.below.size hs5.size
      have HR5 : Hid (Save p w4 w5 ∧ St w5 p (t + n) X) := ⟨hs5, st5⟩
      clear hs5 st5 HVW j1 j2 j3 j4
      go_wp2_with (refine wpList_append_one (by rfl) (.tmp 47) (.tmp 49) (by rfl) w.heap.size _ k _ (by rfl) (own5.alloc _) w5.heap.size 1 (.slice (some ⟨gg, 0, none⟩) n cg) (by rfl) (cell_new1 w5 _ 24) rfl (by omega) (by simp; omega) (w5.heap.size + 1) (by simp) ?_)
      intro g1 c1 w6 own6 gr6 at6 lt6
      have PN : Pcs w w6 p (k + 1) (t + n) X (.slice (some ⟨g1, 0, none⟩) (k + 1) c1) (upd gf k gg) (upd cf k cg) (upd mf k n) :=
        HQ.out.1.push HQ.out.2.1 hgB hgl HQ.out.2.2.1 hcg HR5.out.1 HR5.out.2 gr6 own6 (by simpa using at6) lt6
      obtain ⟨t2, ht2⟩ : ∃ x, x = t + n := ⟨_, rfl⟩
      have LN := HQ.out.2.2.2.2.1
      rw [← ht2] at PN LN
      have t2N : t2 ≤ N := by omega
      have eN : N - t - n = N - t2 := by omega
      rw [eN]
      have HPN : Hid (Pcs w w6 p (k + 1) t2 X (.slice (some ⟨g1, 0, none⟩) (k + 1) c1) (upd gf k gg) (upd cf k cg) (upd mf k n) ∧ Left w al2 bb bo N t2 (cl - n) X ∧ Ground w6) := ⟨PN, LN, HA.out.2.2.below PN.below⟩
      have e16 : (N : Int) - ((N - t2 : Nat) : Int) = (t2 : Int) := by omega
      have j5 := slice_upto a N cb t2 (by omega)
      have j6 := sliceAt_upto a N cb t2 (by omega)
      clear PN LN own5 own6 gr6 at6 lt6 HR5 HQ HLW eN hgB hgl hcg lo5 pw ht2 nle lcap ht
      go_wp2_with fail
      refine (sum_any w6 p t2 X HPN.out.1.st HPN.out.2.2.roots HPN.out.2.2.big (by omega)).mono ?_
      rintro _ w7 ⟨rfl, hb7⟩
      obtain ⟨D, hD⟩ : ∃ D, D = digest t2 X := ⟨_, rfl⟩
      rw [← hD]
      have HD : Hid (D = digest t2 X) := hD
      have hl := hash_laid w7 D
      have b78 := ch hb7 hl.2
      have HT : Hid (HashAt ((w7.alloc (.cells Z32 26)).setRow w7.heap.size (hashA D)) w7.heap.size D ∧ Pcs w ((w7.alloc (.cells Z32 26)).setRow w7.heap.size (hashA D)) p (k + 1) t2 X (.slice (some ⟨g1, 0, none⟩) (k + 1) c1) (upd gf k gg) (upd cf k cg) (upd mf k n)) :=
        ⟨hl.1, HPN.out.1.step b78⟩
      have HLN : Hid (Left w al2 bb bo N t2 (cl - n) X) := HPN.out.2.1
      clear hD hb7 hl b78 HPN j5 j6 e16
      go_wp2_with (refine wpList_store_row (by rfl) 26 (.tmp 12) (.tmp 59) (by rfl) w7.heap.size (hashA D) (by rfl) (by rfl) 26 Z32 (heap_alloc_new _ _) (hashA_info _) (Z32_hash _) (hashA_one _) ?_; change wpList _ _ _ _ _ ((w7.alloc (.cells Z32 26)).setRow w7.heap.size (hashA D)); revert HT; generalize (w7.alloc (.cells Z32 26)).setRow w7.heap.size (hashA D) = w8; intro HT)
      have bdr : Below w8.heap.size w8 w8.drew := (Below.refl _ _).drew
      have r0 : w8.drew.rangeAt w7.heap.size 0 (hashL D) := (HT.out.1.below bdr).range
      have rA : ∀ o, (w8.drew.alloc o).rangeAt w7.heap.size 0 (hashL D) := fun o => (HT.out.1.below (bdr.alloc (Nat.le_refl _) o)).range
      have ownz := World.ownsRow_lit (base := w8.drew.heap.size) (e := 5) (size := 1) w8.drew #[] 0 (Nat.le_refl _) (by decide) rfl
      have bAl : Below w.heap.size w (w8.drew.alloc (.cells #[] 5)) := (HT.out.2.below.trans (bdr.mono HT.out.2.below.size)).alloc HT.out.2.below.size _
      have hv := HA.out.1.below bAl
      have HVH : Hid (View (w8.drew.alloc (.cells #[] 5)) a bb bo t2 (fun i => (X i : Int))) := ⟨fun h => hv.at_ (by omega), fun i hi => hv.cell i (by omega), fun i hi => hv.bd i (by omega), by omega⟩
      have eqh := fun w0 => eq_hashL w0 D
      have hu26 := Tryd.underlying26
      have hl26 := hashL_len D
      have HB8 : Hid (Below w8.heap.size w8 (w8.drew.alloc (.cells #[] 5))) := bdr.alloc (Nat.le_refl _) _
      clear hv bAl bdr
      go_region_held3 (fun w' => w'.rangeAt w7.heap.size 0 (hashL D))
        (first
          | exact r0
          | exact rA _
          | exact r9
          | exact rB _
          | exact r10
          | go_keep)
        (first | (refine step_append_bytes (by rfl) (.tmp 61) (.tmp 62) (by rfl) w8.drew.heap.size _ 0 [] (by rfl) ownz a bb bo t2 cb _ (by rfl) HVH.out hnil (by omega) (by simp) ?_; intro v9 w9 own9 gr9 nn9; have b9 : Below w8.heap.size w8 w9 := HB8.out.trans (grown_below gr9 ownz (Nat.le_refl _) (by simp)); replace own9 : w9.ownsRow w8.drew.heap.size 5 1 v9 t2 (vals (fun i => (X i : Int)) t2) := (by simpa using own9); obtain ⟨g9, c9, rfl, hc9, hB9, hl9⟩ := own_some own9 (fun e => by have := nn9 e; simp at this); have r9 : w9.rangeAt w7.heap.size 0 (hashL D) := (HT.out.1.below b9).range; have rB : ∀ o, (w9.alloc o).rangeAt w7.heap.size 0 (hashL D) := fun o => (HT.out.1.below (b9.alloc b9.size o)).range; have c15 := sum_head w9 g9 t2 c9 X own9 hc9 hX (by omega) ((HA.out.2.2.below HT.out.2.below).below b9); rw [← HD.out] at c15; have HB9 : Hid (∀ w10, Below (w9.alloc (.cells #[.slice (some ⟨g9, 0, none⟩) t2 c9] 24)).heap.size (w9.alloc (.cells #[.slice (some ⟨g9, 0, none⟩) t2 c9] 24)) w10 → Below w8.heap.size w8 w10) := fun w10 h => (b9.alloc b9.size _).trans (h.mono (by simp; have := b9.size; omega)); clear own9 gr9 nn9 b9) | (go_at_call 15; refine c15.mono ?_; rintro _ w10 ⟨rfl, hb10⟩; have r10 : w10.rangeAt w7.heap.size 0 (hashL D) := (HT.out.1.below (HB9.out w10 hb10)).range))
      have HN : Hid (Pcs w w10 p (k + 1) t2 X (.slice (some ⟨g1, 0, none⟩) (k + 1) c1) (upd gf k gg) (upd cf k cg) (upd mf k n)) := HT.out.2.step (HB9.out w10 hb10)
      clear hb10 HB9 r10 r9 rB rA r0 c15 eqh hu26 hl26 ownz HVH HB8 HT HD
      go_wp2_with fail
      go_roundg (K - (k + 1))
      case measure => omega
      case rel => exact ⟨k + 1, t2, _, _, _, al2, cl - n, by omega, t2N, rfl, by go_num, rfl, HN.out, HLN.out⟩
    · have hkK2 : K ≤ k := by omega
      have kK : k = K := by omega
      subst kK
      have own0 := World.ownsRow_lit (base := wr.heap.size) (e := 5) (size := 1) wr #[] 0 (Nat.le_refl _) (by decide) rfl
      have HP : Hid (Pcs w wr p k t X u6 gf cf mf ∧ Ground wr) := ⟨hP, HA.out.2.2.below hP.below⟩
      have HV0 : Hid (View (wr.alloc (.cells #[] 5)) al bb (bo + t) (N - t) (fun i => (X (t + i) : Int))) := (hL.below hP.below).view.below ((Below.refl _ _).alloc (Nat.le_refl _) _)
      have hnl := hL.nil
      clear hP hL
      go_wp2_with (refine wpList_append_bytes (by rfl) (.tmp 67) (.tmp 68) (by rfl) wr.heap.size _ 0 [] (by rfl) own0 al bb (bo + t) (N - t) cl _ (by rfl) HV0.out hnl (by omega) (by simp) ?_)
      intro v1 w4 own1 gr1 nn1
      have b4 : Below wr.heap.size wr w4 := ((Below.refl _ _).alloc (Nat.le_refl _) _).trans (grown_below gr1 own0 (Nat.le_refl _) (by simp))
      replace own1 : w4.ownsRow wr.heap.size 5 1 v1 (N - t) (vals (fun i => (X (t + i) : Int)) (N - t)) := by simpa using own1
      obtain ⟨gg, cg, rfl, hcg, hgB, hgl⟩ := own_some own1 (fun e => by have := nn1 e; simp at this)
      have HQ : Hid (Pcs w wr p k t X u6 gf cf mf ∧ Below wr.heap.size wr w4 ∧ (∀ j, j < N - t → w4.cell? ⟨gg, j, none⟩ = some (.int .u8 (X (t + j)))) ∧ Pcs w w4 p k t X u6 gf cf mf ∧ Ground w4) := by
        refine ⟨HP.out.1, b4, fun j hj => ?_, HP.out.1.step b4, HP.out.2.below b4⟩
        rw [own1.cellAt j (by omega)]
        simp [vals, hj]
      have HVW : Hid (View w4 (some ⟨gg, 0, none⟩) gg 0 (N - t) (fun i => (X (t + i) : Int))) := ⟨fun _ => rfl, fun i hi => by rw [Nat.zero_add]; exact HQ.out.2.2.1 i hi, fun i hi => by have := hX (t + i); omega, by omega⟩
      have pw := HQ.out.1.st.lt
      clear own0 own1 gr1 nn1 HV0 b4 HP hnl
      go_wp2_with fail
      refine (write_any w4 p t X HQ.out.2.2.2.1.st _ gg 0 (N - t) cg (fun i => X (t + i)) HVW.out (fun i => hX _) (fun _ => by omega) hcg HQ.out.2.2.2.2.roots HQ.out.2.2.2.2.big (by have := HQ.out.1.lo; have := HA.out.2.2.big; omega) (by omega)).mono ?_
      rintro _ w5 ⟨rfl, hs5, st5⟩
      replace st5 : St w5 p (t + (N - t)) X := st5.congr hX (fun i _ => by
        unfold cat
        split
        · rfl
        · show X (t + (i - t)) = X i
          rw [show t + (i - t) = i by omega])
      have own5 : w5.ownsRow w.heap.size 24 1 u6 k (svals (F1 gf cf mf) k) := own_keep HQ.out.2.2.2.1.own (fun b e => hs5.block b (HQ.out.2.2.2.1.own.lt b e).2 (fun e2 => HQ.out.1.np (by rw [← e2]; exact e)))
      have lo5 : w.heap.size ≤ w5.heap.size := Nat.le_trans HQ.out.2.2.2.1.below.size hs5.size
      have HR5 : Hid (Save p w4 w5 ∧ St w5 p (t + (N - t)) X) := ⟨hs5, st5⟩
      clear hs5 st5 HVW
      go_wp2_with (refine wpList_append_one (by rfl) (.tmp 73) (.tmp 75) (by rfl) w.heap.size _ k _ (by rfl) (own5.alloc _) w5.heap.size 1 (.slice (some ⟨gg, 0, none⟩) (N - t) cg) (by rfl) (cell_new1 w5 _ 24) rfl (by omega) (by simp; omega) (w5.heap.size + 1) (by simp) ?_)
      intro g1 c1 w6 own6 gr6 at6 lt6
      have PN : Pcs w w6 p (k + 1) (t + (N - t)) X (.slice (some ⟨g1, 0, none⟩) (k + 1) c1) (upd gf k gg) (upd cf k cg) (upd mf k (N - t)) :=
        HQ.out.1.push HQ.out.2.1 hgB hgl HQ.out.2.2.1 hcg HR5.out.1 HR5.out.2 gr6 own6 (by simpa using at6) lt6
      rw [show t + (N - t) = N by omega] at PN
      have own7 := World.ownsRow_lit (base := w6.heap.size) (e := 5) (size := 1) w6 #[] 0 (Nat.le_refl _) (by decide) rfl
      have HPN : Hid (Pcs w w6 p (k + 1) N X (.slice (some ⟨g1, 0, none⟩) (k + 1) c1) (upd gf k gg) (upd cf k cg) (upd mf k (N - t)) ∧ Ground w6) := ⟨PN, HA.out.2.2.below PN.below⟩
      have HV7 : Hid (View (w6.alloc (.cells #[] 5)) a bb bo N (fun i => (X i : Int))) := (HA.out.1.below PN.below).below ((Below.refl _ _).alloc (Nat.le_refl _) _)
      clear PN own5 own6 gr6 at6 lt6 HR5 HQ hgB hgl hcg lo5 pw
      go_wp2_with (refine wpList_append_bytes (by rfl) (.tmp 77) (.tmp 78) (by rfl) w6.heap.size _ 0 [] (by rfl) own7 a bb bo N cb _ (by rfl) HV7.out hnil (by omega) (by simp) ?_)
      intro v8 w8 own8 gr8 nn8
      have b8 : Below w6.heap.size w6 w8 := ((Below.refl _ _).alloc (Nat.le_refl _) _).trans (grown_below gr8 own7 (Nat.le_refl _) (by simp))
      replace own8 : w8.ownsRow w6.heap.size 5 1 v8 N (vals (fun i => (X i : Int)) N) := by simpa using own8
      obtain ⟨g8, c8, rfl, hc8, _, _⟩ := own_some own8 (fun e => by have := nn8 e; simp at this)
      have c15 := sum_head w8 g8 N c8 X own8 hc8 hX (by omega) (HPN.out.2.below b8)
      have HB8 : Hid (∀ w9, Below (w8.alloc (.cells #[.slice (some ⟨g8, 0, none⟩) N c8] 24)).heap.size (w8.alloc (.cells #[.slice (some ⟨g8, 0, none⟩) N c8] 24)) w9 → Below w6.heap.size w6 w9) := fun w9 h => (b8.alloc b8.size _).trans (h.mono (by simp; have := b8.size; omega))
      clear own7 own8 gr8 nn8 b8 HV7
      go_wp2_with fail
      refine c15.mono ?_
      rintro _ w9 ⟨rfl, hb9⟩
      obtain ⟨D, hD⟩ : ∃ D, D = digest N X := ⟨_, rfl⟩
      rw [← hD]
      have HD : Hid (D = digest N X) := hD
      have hl := hash_laid w9 D
      have b69 := HB8.out w9 hb9
      have b6a : Below w6.heap.size w6 ((w9.alloc (.cells Z32 26)).setRow w9.heap.size (hashA D)) := b69.trans (hl.2.mono b69.size)
      have HT : Hid (HashAt ((w9.alloc (.cells Z32 26)).setRow w9.heap.size (hashA D)) w9.heap.size D ∧ Pcs w ((w9.alloc (.cells Z32 26)).setRow w9.heap.size (hashA D)) p (k + 1) N X (.slice (some ⟨g1, 0, none⟩) (k + 1) c1) (upd gf k gg) (upd cf k cg) (upd mf k (N - t)) ∧ Ground ((w9.alloc (.cells Z32 26)).setRow w9.heap.size (hashA D))) := ⟨hl.1, HPN.out.1.step b6a, HPN.out.2.below b6a⟩
      clear hD hl b69 b6a hb9 HB8 HPN c15
      go_wp2_with (refine wpList_store_row (by rfl) 26 (.tmp 14) (.tmp 81) (by rfl) w9.heap.size (hashA D) (by rfl) (by rfl) 26 Z32 (heap_alloc_new _ _) (hashA_info _) (Z32_hash _) (hashA_one _) ?_; change wpList _ _ _ _ _ ((w9.alloc (.cells Z32 26)).setRow w9.heap.size (hashA D)); revert HT; generalize (w9.alloc (.cells Z32 26)).setRow w9.heap.size (hashA D) = w10; intro HT)
      refine (sum_any w10 p N X HT.out.2.1.st HT.out.2.2.roots HT.out.2.2.big (by omega)).mono ?_
      rintro _ w11 ⟨rfl, hb11⟩
      rw [← HD.out]
      have hl := hash_laid w11 D
      have b1112 := ch hb11 hl.2
      have HU : Hid (HashAt ((w11.alloc (.cells Z32 26)).setRow w11.heap.size (hashA D)) w11.heap.size D ∧ HashAt ((w11.alloc (.cells Z32 26)).setRow w11.heap.size (hashA D)) w9.heap.size D ∧ Pcs w ((w11.alloc (.cells Z32 26)).setRow w11.heap.size (hashA D)) p (k + 1) N X (.slice (some ⟨g1, 0, none⟩) (k + 1) c1) (upd gf k gg) (upd cf k cg) (upd mf k (N - t)) ∧ Ground ((w11.alloc (.cells Z32 26)).setRow w11.heap.size (hashA D))) := ⟨hl.1, HT.out.1.below b1112, HT.out.2.1.step b1112, HT.out.2.2.below b1112⟩
      clear hl b1112 hb11 HT
      go_wp2_with (refine wpList_store_row (by rfl) 26 (.tmp 15) (.tmp 83) (by rfl) w11.heap.size (hashA D) (by rfl) (by rfl) 26 Z32 (heap_alloc_new _ _) (hashA_info _) (Z32_hash _) (hashA_one _) ?_; change wpList _ _ _ _ _ ((w11.alloc (.cells Z32 26)).setRow w11.heap.size (hashA D)); revert HU; generalize (w11.alloc (.cells Z32 26)).setRow w11.heap.size (hashA D) = w12; intro HU)
      obtain ⟨pa, pb, cp, ep, PT⟩ := HU.out.2.2.1.parts hX (by omega)
      have e3 : pa = some ⟨g1, 0, none⟩ ∧ cp = c1 := by
        simp only [Value.slice.injEq] at ep
        exact ⟨ep.1.symm, ep.2.2.symm⟩
      obtain ⟨rfl, rfl⟩ := e3
      have sm := HU.out.2.2.1.sum
      have dg : digest (tot (upd mf k (N - t)) (k + 1)) (jn (upd mf k (N - t)) (fun i j => X (tot (upd mf k (N - t)) i + j)) (k + 1)) = D := by
        rw [HD.out, sm]
        exact digest_congr (fun i hi => jn_cut _ X (k + 1) i (by rw [sm]; exact hi))
      have k15 := fun (d : Nat) (os : Array Obj) => Calls.regrown_of (w := w12) (d := d) (os := os) (sums_any (grow (redrawn w12 d) os) _ pb 0 (k + 1) cp _ _ _ _ _ _ (PT.below (below_regrown w12 d os)) (HU.out.2.2.2.below (below_regrown w12 d os)).roots (HU.out.2.2.2.below (below_regrown w12 d os)).first (HU.out.2.2.2.below (below_regrown w12 d os)).big (by omega) (by rw [sm]; omega))
      rw [dg] at k15
      have k10 := fun (d : Nat) (os : Array Obj) => Calls.regrown_of (w := w12) (d := d) (os := os) ((len_any (grow (redrawn w12 d) os) p N X (HU.out.2.2.1.st.below (below_regrown w12 d os))).mono fun e w' ⟨he, hw'⟩ => ⟨he, by rw [hw']; exact Below.refl _ _⟩)
      have hc1 : ∀ w', (∃ r : Regrown, w' = grow (redrawn w12 r.d) r.os) → ∀ j, j < (hashA D).size → w'.cell? ⟨w11.heap.size, j, none⟩ = (hashA D)[j]? := by
        rintro _ ⟨r, rfl⟩
        exact (HU.out.1.below (below_regrown w12 r.d r.os)).cells
      have hc2 : ∀ w', (∃ r : Regrown, w' = grow (redrawn w12 r.d) r.os) → ∀ j, j < (hashA D).size → w'.cell? ⟨w9.heap.size, j, none⟩ = (hashA D)[j]? := by
        rintro _ ⟨r, rfl⟩
        exact (HU.out.2.1.below (below_regrown w12 r.d r.os)).cells
      have eqh := fun w0 => eq_hashA w0 D
      have HE : Hid (Below w.heap.size w w12) := HU.out.2.2.1.below
      clear dg sm PT ep
      refine wp_region_quiet_below (by kernel_rfl) (by kernel_rfl) ?_
      refine quiet_load (by rfl) 26 (.tmp 15) (by rfl) w11.heap.size (by rfl) (hashA D) _ hc1 Tryd.underlying26 rfl (hashA_info _) ?_
      refine quiet_load (by rfl) 26 (.tmp 14) (by rfl) w9.heap.size (by rfl) (hashA D) _ hc2 Tryd.underlying26 rfl (hashA_info _) ?_
      iterate 4 (first | go_big_quiet_step (first | (go_at_call 15; exact k15 _ _)) | quiet_step (first | (go_at_call 15; exact k15 _ _)))
      refine quiet_load (by rfl) 26 (.tmp 14) (by rfl) w9.heap.size (by rfl) (hashA D) _ hc2 Tryd.underlying26 rfl (hashA_info _) ?_
      clear hc1 hc2
      repeat (first
        | go_big_quiet_step (first | (go_at_call 10; exact k10 _ _))
        | quiet_step (first | (go_at_call 10; exact k10 _ _)))
      refine wpQuiet_nil ?_
      intro w13 hw'
      obtain ⟨⟨dq, osq⟩, hw''⟩ := hw'
      have b13 := below_regrown w12 dq osq
      have HF : Hid (Below w.heap.size w w13) := by rw [hw'']; exact HE.out.trans (b13.mono HE.out.size)
      clear hw'' b13 k15 k10
      go_wp2_with fail
      go_ret
      exact ⟨rfl, HF.out⟩
end Go.Proofs.YtdhenfepfkmhhaaDoor
