import Derived.Test.YtlhllbggnpcoaaaDoorYl3
import Derived.Test.YtlhllbggnpcoaaaDoorRefC1
/-
  DigestForges.
-/
namespace Go.Proofs.YtlhllbggnpcoaaaDoor
open Go.RowKit Go.Sort Go.Maps

theorem ins_one (t : List Nat) : ins t [t] = [t] := ins_mem (L := [t]) (List.pairwise_singleton _ _) (by simp)

set_option maxRecDepth 100000 in
set_option maxHeartbeats 8000000 in
theorem forges_any (w : World) (hG : Ground w) (x : Int) (a1 : Option Addr) (b1 o1 c1 : Nat) (t1 : List Nat) (v1 : Vw w a1 b1 o1 t1) (hc1 : t1.length ≤ c1) (hs1 : t1.length ≤ 140737488355328)
    (a2 : Option Addr) (b2 o2 c2 : Nat) (t2 : List Nat) (v2 : Vw w a2 b2 o2 t2) (hc2 : t2.length ≤ c2) (hs2 : t2.length ≤ 140737488355328) (k : List Nat) (hk : IsH k) :
    Calls Tryd.prog 5 #[.int .i64 x, .slice a1 t1.length c1, .slice a2 t2.length c2, .agg (hA k)] w fun e w' => e = .returned (.bool true) ∧ Below w.heap.size w w' := by
  have z64 := (zero_of_info infoH).1
  have b0 : Below w.heap.size w (w.alloc (.cells (hA k) 31)) := (Below.refl _ _).alloc (Nat.le_refl _) _
  have e0 : (w.alloc (.cells (hA k) 31)).heap[w.heap.size]? = some (.cells (hA k) 31 (0, 0)) := heap_alloc_new _ _
  have l0 : w.heap.size < (w.alloc (.cells (hA k) 31)).heap.size := by simp
  obtain ⟨W0, hW0⟩ : ∃ W0, W0 = w.alloc (.cells (hA k) 31) := ⟨_, rfl⟩
  obtain ⟨gw, hgw⟩ : ∃ gw, gw = w.heap.size := ⟨_, rfl⟩
  rw [← hW0, ← hgw] at e0 l0
  rw [← hW0] at b0
  have HG : Hid (Ground W0 ∧ Below w.heap.size w W0 ∧ W0.heap[gw]? = some (.cells (hA k) 31 (0, 0)) ∧ gw < W0.heap.size) := ⟨hG.below b0, b0, e0, l0⟩
  have V1 : Hid (Vw W0 a1 b1 o1 t1 ∧ t1.length ≤ c1 ∧ t1.length ≤ 140737488355328) := ⟨v1.below b0, hc1, hs1⟩
  have V2 : Hid (Vw W0 a2 b2 o2 t2 ∧ t2.length ≤ c2 ∧ t2.length ≤ 140737488355328) := ⟨v2.below b0, hc2, hs2⟩
  have HGW : Hid (∀ v, Below W0.heap.size W0 v → v.rangeAt gw 0 (bv k)) := fun v hb => range_box ((hb.block gw l0).trans e0)
  have HKK : Hid (IsH k) := hk
  have bsk := hA_size hk
  clear hG v1 hc1 hs1 v2 hc2 hs2 b0 e0 l0 hk
  have HBn : Hid (8 ≤ nbits x ∧ nbits x ≤ 256) := nbits_le x
  go_enter Tryd.func5, Tryd.ntmps5
  go_wp2_with fail
  rw [← hW0, ← hgw]
  clear hW0 hgw bsk
  refine (bits_any W0 x).mono ?_
  rintro _ w' ⟨rfl, hw'⟩
  have hw'' := hw'.symm
  subst hw''
  revert HBn
  generalize nbits x = n
  intro HBn
  go_wp2_with fail
  refine (secret_any W0 a1 b1 o1 t1.length c1 (gd t1) V1.out.1 (gd_lt (vw_ok V1.out.1).2)).mono ?_
  rintro _ w1 ⟨a3, g3, c3, rfl, _, _, _, hv1, _, hb1⟩
  obtain ⟨S, hS⟩ : ∃ S, S = lst 32 (secf t1.length (gd t1)) := ⟨_, rfl⟩
  have HSS : Hid (S = lst 32 (secf t1.length (gd t1))) := hS
  rw [← hS] at hv1
  have HS : Hid (S.length = 32) := by rw [hS]; exact lst_len _ _
  have n1 := new_ok w1 256 n a3 g3 0 c3 S hv1 (by decide) HBn.out HS.out W0.heap.size hb1.size
  have H1 : Hid (Below W0.heap.size W0 w1) := hb1
  clear hb1 hv1 hS
  go_wp2_with fail
  refine n1.mono ?_
  rintro _ w2 ⟨sb1, F1, rfl, hb2, bk1, hf1⟩
  have H2 : Hid (Below w1.heap.size w1 w2 ∧ Book w2 W0.heap.size sb1 ⟨256, n, gd S, [], [], []⟩ F1 ∧ Below W0.heap.size W0 w2) := ⟨hb2, bk1, H1.out.trans (hb2.mono H1.out.size)⟩
  clear hb2 bk1 hf1 n1
  go_wp2_with fail
  refine (secret_any w2 a1 b1 o1 t1.length c1 (gd t1) (V1.out.1.below H2.out.2.2) (gd_lt (vw_ok V1.out.1).2)).mono ?_
  rintro _ w3 ⟨a4, g4, c4, rfl, _, _, _, hv3, _, hb3⟩
  rw [← HSS.out] at hv3
  have n2 := new_ok w3 256 n a4 g4 0 c4 S hv3 (by decide) HBn.out HS.out W0.heap.size (Nat.le_trans H2.out.2.2.size hb3.size)
  have H3 : Hid (Below w2.heap.size w2 w3) := hb3
  clear hb3 hv3 HSS
  go_wp2_with fail
  refine n2.mono ?_
  rintro _ w4 ⟨sb2, F2, rfl, hb4, bk2, hf2⟩
  have HT : Hid (Two4 W0 w4 sb1 ⟨256, n, gd S, [], [], []⟩ sb2 ⟨256, n, gd S, [], [], []⟩ []) :=
    two_new HG.out.1 H1.out H2.out.1 H2.out.2.1 (H3.out.trans (hb4.mono H3.out.size)) bk2 (fun i q => Nat.le_trans H3.out.size (hf2 i q))
  clear hb4 bk2 hf2 n2 H1 H2 H3
  go_wp2_with fail
  refine (fixed_any w4 HT.out.belowW.2.1).mono ?_
  rintro _ w5 ⟨rfl, hb5⟩
  have HT5 : Hid (Two4 W0 w5 sb1 ⟨256, n, gd S, [], [], []⟩ sb2 ⟨256, n, gd S, [], [], []⟩ []) := HT.out.step hb5
  clear hb5 HT
  go_wp2_with fail
  refine (HT5.out.code1 (by simp) a2 b2 o2 c2 t2 V2.out.1 V2.out.2.1 V2.out.2.2).mono ?_
  rintro _ w6 ⟨rfl, ht⟩
  have HT6 : Hid (Two4 W0 w6 sb1 ⟨256, n, gd S, [], [t2], []⟩ sb2 ⟨256, n, gd S, [], [], []⟩ []) := ht
  clear ht HT5
  have hcc := kc_isH n (gd S) t2
  obtain ⟨c, ec⟩ : ∃ c, c = kc n (gd S) t2 := ⟨_, rfl⟩
  have HC : Hid (c = kc n (gd S) t2) := ec
  have ec' : kc (⟨256, n, gd S, [], [], []⟩ : Bst).cbits (⟨256, n, gd S, [], [], []⟩ : Bst).S t2 = c := ec.symm
  first | rw [ec'] | rw [← ec]
  rw [← ec] at hcc
  have HCC : Hid (IsH c) := hcc
  clear ec ec'
  have HTA := HT6.out.box (hA c)
  obtain ⟨w7, hw7⟩ : ∃ w7, w7 = (w6.alloc (.cells Z32 31)).setRow w6.heap.size (hA c) := ⟨_, rfl⟩
  obtain ⟨gb, hgb⟩ : ∃ gb, gb = w6.heap.size := ⟨_, rfl⟩
  rw [← hw7, ← hgb] at HTA
  have HT7 : Hid (Two4 W0 w7 sb1 ⟨256, n, gd S, [], [t2], []⟩ sb2 ⟨256, n, gd S, [], [], []⟩ [(gb, hA c)]) := HTA
  clear HTA HT6
  have ez : (#[.int .u8 0, .int .u8 0, .int .u8 0, .int .u8 0, .int .u8 0, .int .u8 0, .int .u8 0, .int .u8 0, .int .u8 0, .int .u8 0, .int .u8 0, .int .u8 0, .int .u8 0, .int .u8 0, .int .u8 0, .int .u8 0, .int .u8 0, .int .u8 0, .int .u8 0, .int .u8 0, .int .u8 0, .int .u8 0, .int .u8 0, .int .u8 0, .int .u8 0, .int .u8 0, .int .u8 0, .int .u8 0, .int .u8 0, .int .u8 0, .int .u8 0, .int .u8 0] : Array Value) = Z32 := rfl
  have HZ : Hid ((#[.int .u8 0, .int .u8 0, .int .u8 0, .int .u8 0, .int .u8 0, .int .u8 0, .int .u8 0, .int .u8 0, .int .u8 0, .int .u8 0, .int .u8 0, .int .u8 0, .int .u8 0, .int .u8 0, .int .u8 0, .int .u8 0, .int .u8 0, .int .u8 0, .int .u8 0, .int .u8 0, .int .u8 0, .int .u8 0, .int .u8 0, .int .u8 0, .int .u8 0, .int .u8 0, .int .u8 0, .int .u8 0, .int .u8 0, .int .u8 0, .int .u8 0, .int .u8 0] : Array Value) = Z32) := ez
  clear ez
  have hcl : ∀ j, j < (hA c).size → w7.cell? ⟨gb, j, none⟩ = (hA c)[j]? := fun j _ => cell_of_row _ _ _ _ 31 _ (HT7.out.cells (by simp))
  have hi3 := hA_info hcc
  go_upto_region 7 with (refine wpList_store_row (by rfl) 31 (.tmp 14) (.tmp 53) (by rfl) w6.heap.size (hA c) (by rfl) (by rfl) 31 Z32 (heap_alloc_new _ _) (hA_info hcc) (hA_Z32 hcc) (hA_one hcc) ?_)
  first | rw [← hw7, ← hgb] | rw [HZ.out, ← hw7, ← hgb]
  clear hw7 hgb HZ
  go_wp2_with (refine wpList_load_cells_g (by rfl) 31 (.tmp 14) (by rfl) gb (by rfl) (hA c) _ hcl Tryd.underlying31 (by rfl) hi3 ?_)
  refine (HT7.out.own1 (by simp) a2 b2 o2 c2 t2 V2.out.1 V2.out.2.1 c hcc HC.out (by simp)).mono ?_
  rintro _ w8 ⟨rfl, ht⟩
  have HT8 : Hid (Two4 W0 w8 sb1 ⟨256, n, gd S, [], [t2], []⟩ sb2 ⟨256, n, gd S, [], [], []⟩ [(gb, hA c)]) := ht
  clear ht HT7 hcl
  have sd := HT8.out.sound1
  have vv : (decide (Lone (kh 256) []) && decide (Lone (kc n (gd S)) [t2]) && decide (([] : List (List Nat)).length = 0)) = true := by rw [decide_eq_true (lone_nil _), decide_eq_true (lone_one _ _)]; rfl
  rw [vv] at sd
  go_wp2_with fail
  refine sd.mono ?_
  rintro _ w9 ⟨rfl, ht⟩
  have HT9 : Hid (Two4 W0 w9 sb1 ⟨256, n, gd S, [], [t2], []⟩ sb2 ⟨256, n, gd S, [], [], []⟩ [(gb, hA c)]) := ht
  clear ht HT8 sd vv
  go_wp2_with fail
  refine (HT9.out.swap.forges0 rfl).mono ?_
  rintro _ w10 ⟨rfl, ht⟩
  have HT10 : Hid (Two4 W0 w10 sb1 ⟨256, n, gd S, [], [t2], []⟩ sb2 ⟨256, n, gd S, [], [], []⟩ [(gb, hA c)]) := ht.swap
  clear ht HT9
  go_wp2_with fail
  by_cases hkc : k = c
  · have eqk : ∀ w0 : World, (Op.equalIn 10000 31 (.agg (hA k)) (.agg (hA c))).run Tryd.prog w0 = .ok true w0 := fun w0 => by rw [eqH_any w0 _ _ HKK.out HCC.out, decide_eq_true hkc]
    have HE : Hid (k = kc n (gd S) t2) := hkc.trans HC.out
    clear hkc
    have pd : Two4 W0 w10.drew sb1 ⟨256, n, gd S, [], [t2], []⟩ sb2 ⟨256, n, gd S, [], [], []⟩ [(gb, hA c)] := HT10.out.step ((Turn.drew (F := fun _ => False) w10).below (fun _ f => f.elim) (Nat.le_refl _))
    have s0 : w10.drew.rangeAt gw 0 (bv k) ∧ w10.drew.rangeAt gb 0 (bv c) := ⟨HGW.out _ pd.belowW.1, range_box (pd.cells (by simp))⟩
    have HT11 : Hid (Two4 W0 w10.drew sb1 ⟨256, n, gd S, [], [t2], []⟩ sb2 ⟨256, n, gd S, [], [], []⟩ [(gb, hA c)]) := pd
    refine wp_region_held_drew (S := fun v => v.rangeAt gw 0 (bv k) ∧ v.rangeAt gb 0 (bv c)) (by kernel_rfl) s0 ?_
    intro hS
    clear pd s0 HT10
    change wpAnyH _ _ _ _ _ 18 _ _ _
    generalize w10.drew = wd at hS HT11 ⊢
    refine wpAnyH_take (i := 0) (v := (.pointer (some ⟨sb1, 0, none⟩))) (by simp only [List.getElem?_toArray, List.getElem?_cons_zero]; rfl) (by kernel_rfl) (by kernel_rfl) (by kernel_rfl) (by exact fun _ _ _ h => h) (y_move (by kernel_rfl) _ rfl _ rfl) hS ?_
    try simp only [Act.put, List.setIfInBounds_toArray, List.set_cons_zero, List.set_cons_succ]
    refine wpAnyH_take (i := 1) (v := (.slice a2 t2.length c2)) (by simp only [List.getElem?_toArray, List.getElem?_cons_zero, List.getElem?_cons_succ]; rfl) (by kernel_rfl) (by kernel_rfl) (by kernel_rfl) (by exact fun _ _ _ h => h) (y_move (by kernel_rfl) _ rfl _ rfl) hS ?_
    try simp only [Act.put, List.setIfInBounds_toArray, List.set_cons_zero, List.set_cons_succ]
    refine wpAnyH_take (i := 2) (v := (.agg (hA k))) (by simp only [List.getElem?_toArray, List.getElem?_cons_zero, List.getElem?_cons_succ]; rfl) (by kernel_rfl) (by kernel_rfl) (by kernel_rfl) (by exact fun _ _ _ h => h) (yieldsIf_load_mid (by kernel_rfl) _ _ rfl gw 0 rfl _ _ (fun v hs => hs.1) Tryd.underlying31 rfl (hL_len HKK.out)) hS ?_
    try simp only [Act.put, List.setIfInBounds_toArray, List.set_cons_zero, List.set_cons_succ]
    refine wpAnyH_take (i := 4) (v := (.agg (hA k))) (by simp only [List.getElem?_toArray, List.getElem?_cons_zero, List.getElem?_cons_succ]; rfl) (by kernel_rfl) (by kernel_rfl) (by kernel_rfl) (by exact fun _ _ _ h => h) (yieldsIf_load_mid (by kernel_rfl) _ _ rfl gw 0 rfl _ _ (fun v hs => hs.1) Tryd.underlying31 rfl (hL_len HKK.out)) hS ?_
    try simp only [Act.put, List.setIfInBounds_toArray, List.set_cons_zero, List.set_cons_succ]
    refine wpAnyH_take (i := 5) (v := (.agg (hA c))) (by simp only [List.getElem?_toArray, List.getElem?_cons_zero, List.getElem?_cons_succ]; rfl) (by kernel_rfl) (by kernel_rfl) (by kernel_rfl) (by exact fun _ _ _ h => h) (yieldsIf_load_mid (by kernel_rfl) _ _ rfl gb 0 rfl _ _ (fun v hs => hs.2) Tryd.underlying31 rfl (hL_len HCC.out)) hS ?_
    try simp only [Act.put, List.setIfInBounds_toArray, List.set_cons_zero, List.set_cons_succ]
    refine wpAnyH_take (i := 6) (v := (.bool true)) (by simp only [List.getElem?_toArray, List.getElem?_cons_zero, List.getElem?_cons_succ]; rfl) (by kernel_rfl) (by kernel_rfl) (by kernel_rfl) (by exact fun _ _ _ h => h) (y_eqlH (by kernel_rfl) _ _ rfl (hA k) (hA c) rfl rfl true eqk) hS ?_
    try simp only [Act.put, List.setIfInBounds_toArray, List.set_cons_zero, List.set_cons_succ]
    try simp only [Act.put, List.setIfInBounds_toArray, List.set_cons_zero, List.set_cons_succ]
    refine wpAnyH_ready (rs := [3]) (by kernel_rfl) (by simp) ?_
    refine AllReadyH.cons (by simp only [List.getElem?_toArray, List.getElem?_cons_zero, List.getElem?_cons_succ]; rfl) (fun K hK => ?_) AllReadyH.nil
    refine r_call3 12 _ _ _ #[25, 22, 31] rfl (by kernel_rfl) (.pointer (some ⟨sb1, 0, none⟩)) (.slice a2 t2.length c2) (.agg (hA k)) rfl rfl rfl (enters_of Tryd.func12 (by kernel_rfl) rfl) ((HT11.out.own1 (by simp) a2 b2 o2 c2 t2 V2.out.1 V2.out.2.1 k HKK.out HE.out (by simp)).mono ?_)
    rintro _ v11 ⟨rfl, ht⟩
    refine ⟨_, rfl, ?_⟩
    have HT12 : Hid (Two4 W0 v11 sb1 ⟨256, n, gd S, [], [t2], []⟩ sb2 ⟨256, n, gd S, [], [], []⟩ [(gb, hA c)]) := ht
    refine hK.out _ _ ⟨HGW.out _ ht.belowW.1, range_box (ht.cells (by simp))⟩ (fun hS => ?_)
    clear hK K ht HT11
    try simp only [Act.put, List.setIfInBounds_toArray, List.set_cons_zero, List.set_cons_succ]
    refine wpAnyH_take (i := 7) (v := (.bool false)) (by simp only [List.getElem?_toArray, List.getElem?_cons_zero, List.getElem?_cons_succ]; rfl) (by kernel_rfl) (by kernel_rfl) (by kernel_rfl) (by exact fun _ _ _ h => h) (y_neqB (by kernel_rfl) _ _ rfl true rfl rfl) hS ?_
    try simp only [Act.put, List.setIfInBounds_toArray, List.set_cons_zero, List.set_cons_succ]
    refine wpAnyH_take (i := 8) (v := (.bool false)) (by simp only [List.getElem?_toArray, List.getElem?_cons_zero, List.getElem?_cons_succ]; rfl) (by kernel_rfl) (by kernel_rfl) (by kernel_rfl) (by exact fun _ _ _ h => h) (y_move (by kernel_rfl) _ rfl _ rfl) hS ?_
    try simp only [Act.put, List.setIfInBounds_toArray, List.set_cons_zero, List.set_cons_succ]
    refine wpAnyH_take (i := 9) (v := (.pointer (some ⟨sb2, 0, none⟩))) (by simp only [List.getElem?_toArray, List.getElem?_cons_zero, List.getElem?_cons_succ]; rfl) (by kernel_rfl) (by kernel_rfl) (by kernel_rfl) (by exact fun _ _ _ h => h) (y_move (by kernel_rfl) _ rfl _ rfl) hS ?_
    try simp only [Act.put, List.setIfInBounds_toArray, List.set_cons_zero, List.set_cons_succ]
    refine wpAnyH_take (i := 10) (v := (.slice a2 t2.length c2)) (by simp only [List.getElem?_toArray, List.getElem?_cons_zero, List.getElem?_cons_succ]; rfl) (by kernel_rfl) (by kernel_rfl) (by kernel_rfl) (by exact fun _ _ _ h => h) (y_move (by kernel_rfl) _ rfl _ rfl) hS ?_
    try simp only [Act.put, List.setIfInBounds_toArray, List.set_cons_zero, List.set_cons_succ]
    refine wpAnyH_take (i := 11) (v := (.agg (hA k))) (by simp only [List.getElem?_toArray, List.getElem?_cons_zero, List.getElem?_cons_succ]; rfl) (by kernel_rfl) (by kernel_rfl) (by kernel_rfl) (by exact fun _ _ _ h => h) (yieldsIf_load_mid (by kernel_rfl) _ _ rfl gw 0 rfl _ _ (fun v hs => hs.1) Tryd.underlying31 rfl (hL_len HKK.out)) hS ?_
    try simp only [Act.put, List.setIfInBounds_toArray, List.set_cons_zero, List.set_cons_succ]
    refine wpAnyH_take (i := 13) (v := (.agg (hA k))) (by simp only [List.getElem?_toArray, List.getElem?_cons_zero, List.getElem?_cons_succ]; rfl) (by kernel_rfl) (by kernel_rfl) (by kernel_rfl) (by exact fun _ _ _ h => h) (yieldsIf_load_mid (by kernel_rfl) _ _ rfl gw 0 rfl _ _ (fun v hs => hs.1) Tryd.underlying31 rfl (hL_len HKK.out)) hS ?_
    try simp only [Act.put, List.setIfInBounds_toArray, List.set_cons_zero, List.set_cons_succ]
    refine wpAnyH_take (i := 14) (v := (.agg (hA c))) (by simp only [List.getElem?_toArray, List.getElem?_cons_zero, List.getElem?_cons_succ]; rfl) (by kernel_rfl) (by kernel_rfl) (by kernel_rfl) (by exact fun _ _ _ h => h) (yieldsIf_load_mid (by kernel_rfl) _ _ rfl gb 0 rfl _ _ (fun v hs => hs.2) Tryd.underlying31 rfl (hL_len HCC.out)) hS ?_
    try simp only [Act.put, List.setIfInBounds_toArray, List.set_cons_zero, List.set_cons_succ]
    refine wpAnyH_take (i := 15) (v := (.bool true)) (by simp only [List.getElem?_toArray, List.getElem?_cons_zero, List.getElem?_cons_succ]; rfl) (by kernel_rfl) (by kernel_rfl) (by kernel_rfl) (by exact fun _ _ _ h => h) (y_eqlH (by kernel_rfl) _ _ rfl (hA k) (hA c) rfl rfl true eqk) hS ?_
    try simp only [Act.put, List.setIfInBounds_toArray, List.set_cons_zero, List.set_cons_succ]
    try simp only [Act.put, List.setIfInBounds_toArray, List.set_cons_zero, List.set_cons_succ]
    refine wpAnyH_ready (rs := [12]) (by kernel_rfl) (by simp) ?_
    refine AllReadyH.cons (by simp only [List.getElem?_toArray, List.getElem?_cons_zero, List.getElem?_cons_succ]; rfl) (fun K hK => ?_) AllReadyH.nil
    refine r_call3 12 _ _ _ #[25, 22, 31] rfl (by kernel_rfl) (.pointer (some ⟨sb2, 0, none⟩)) (.slice a2 t2.length c2) (.agg (hA k)) rfl rfl rfl (enters_of Tryd.func12 (by kernel_rfl) rfl) ((HT12.out.forge2 (by simp) (by simp) a2 b2 o2 c2 t2 V2.out.1 V2.out.2.1 V2.out.2.2 k HKK.out HE.out (by simp)).mono ?_)
    rintro _ v12 ⟨rfl, ht⟩
    refine ⟨_, rfl, ?_⟩
    have HT13 : Hid (∃ LF, LF = [] ∨ LF = [t2]) := ⟨[t2], by simp⟩
    have HT14 : Hid (Two4 W0 v12 sb1 ⟨256, n, gd S, [], [t2], []⟩ sb2 ⟨256, n, gd S, [], [], [t2]⟩ [(gb, hA c)]) := ht
    refine hK.out _ _ ⟨HGW.out _ ht.belowW.1, range_box (ht.cells (by simp))⟩ (fun hS => ?_)
    clear hK K ht HT12 HT13
    try simp only [Act.put, List.setIfInBounds_toArray, List.set_cons_zero, List.set_cons_succ]
    refine wpAnyH_take (i := 16) (v := (.bool false)) (by simp only [List.getElem?_toArray, List.getElem?_cons_zero, List.getElem?_cons_succ]; rfl) (by kernel_rfl) (by kernel_rfl) (by kernel_rfl) (by exact fun _ _ _ h => h) (y_neqB (by kernel_rfl) _ _ rfl true rfl rfl) hS ?_
    try simp only [Act.put, List.setIfInBounds_toArray, List.set_cons_zero, List.set_cons_succ]
    refine wpAnyH_take (i := 17) (v := (.bool false)) (by simp only [List.getElem?_toArray, List.getElem?_cons_zero, List.getElem?_cons_succ]; rfl) (by kernel_rfl) (by kernel_rfl) (by kernel_rfl) (by exact fun _ _ _ h => h) (y_pick_f (by kernel_rfl) _ _ _ rfl _ rfl rfl) hS ?_
    try simp only [Act.put, List.setIfInBounds_toArray, List.set_cons_zero, List.set_cons_succ]
    refine wpAnyH_done (by kernel_rfl) ?_ _
    try simp only [Act.put, List.setIfInBounds_toArray, List.set_cons_zero, List.set_cons_succ]
    clear hS eqk
    have hcl : ∀ j, j < (hA c).size → v12.cell? ⟨gb, j, none⟩ = (hA c)[j]? := fun j _ => cell_of_row _ _ _ _ 31 _ (HT14.out.cells (by simp))
    go_wp2_with (refine wpList_load_cells_g (by rfl) 31 (.tmp 14) (by rfl) gb (by rfl) (hA c) _ hcl Tryd.underlying31 (by rfl) hi3 ?_)
    refine (HT14.out.forge2 (by simp) (by simp) a2 b2 o2 c2 t2 V2.out.1 V2.out.2.1 V2.out.2.2 c hcc HC.out (by simp)).mono ?_
    rintro _ w15 ⟨rfl, ht⟩
    have HT15 : Hid (Two4 W0 w15 sb1 ⟨256, n, gd S, [], [t2], []⟩ sb2 ⟨256, n, gd S, [], [], [t2]⟩ [(gb, hA c)]) := by rw [show ({ (⟨256, n, gd S, [], [], [t2]⟩ : Bst) with LF := ins t2 [t2] } : Bst) = ⟨256, n, gd S, [], [], [t2]⟩ by rw [ins_one]] at ht; exact ht
    clear ht HT14 hcl
    have hcl : ∀ j, j < (hA c).size → w15.cell? ⟨gb, j, none⟩ = (hA c)[j]? := fun j _ => cell_of_row _ _ _ _ 31 _ (HT15.out.cells (by simp))
    go_wp2_with (refine wpList_load_cells_g (by rfl) 31 (.tmp 14) (by rfl) gb (by rfl) (hA c) _ hcl Tryd.underlying31 (by rfl) hi3 ?_)
    refine (HT15.out.forge2 (by simp) (by simp) a2 b2 o2 c2 t2 V2.out.1 V2.out.2.1 V2.out.2.2 c hcc HC.out (by simp)).mono ?_
    rintro _ w16 ⟨rfl, ht⟩
    have HT16 : Hid (Two4 W0 w16 sb1 ⟨256, n, gd S, [], [t2], []⟩ sb2 ⟨256, n, gd S, [], [], [t2]⟩ [(gb, hA c)]) := by rw [show ({ (⟨256, n, gd S, [], [], [t2]⟩ : Bst) with LF := ins t2 [t2] } : Bst) = ⟨256, n, gd S, [], [], [t2]⟩ by rw [ins_one]] at ht; exact ht
    clear ht HT15 hcl
    have sd := HT16.out.sound2
    have vv : (decide (Lone (kh 256) []) && decide (Lone (kc n (gd S)) []) && decide (([t2] : List (List Nat)).length = 0)) = false := by simp
    rw [vv] at sd
    go_wp2_with fail
    refine sd.mono ?_
    rintro _ w17 ⟨rfl, ht⟩
    have HT17 : Hid (Two4 W0 w17 sb1 ⟨256, n, gd S, [], [t2], []⟩ sb2 ⟨256, n, gd S, [], [], [t2]⟩ [(gb, hA c)]) := ht
    clear ht HT16 sd vv
    go_wp2_with fail
    refine (HT17.out.forged1 rfl V2.out.2.2).mono ?_
    rintro _ w18 ⟨p18, c18, rfl, ht⟩
    have HT18 : Hid (Two4 W0 w18 sb1 ⟨256, n, gd S, [], [t2], []⟩ sb2 ⟨256, n, gd S, [], [], [t2]⟩ [(gb, hA c)]) := ht
    clear ht HT17
    go_wp2_with fail
    obtain ⟨F1', F2', HX⟩ := HT18.out
    refine (HX.forged_one rfl V2.out.2.2).mono ?_
    rintro _ w19 ⟨g, cap, pa, ga, ca, rfl, hx19, hcell⟩
    have H19 : Hid (TwoX W0 w19 sb1 ⟨256, n, gd S, [], [t2], []⟩ sb2 ⟨256, n, gd S, [], [], [t2]⟩ [(gb, hA c)] F1' F2') := hx19
    have HL : Hid (∀ v', Turn F2' w19 v' → v'.cell? ⟨g, 0, none⟩ = some (.slice pa t2.length ca) ∧ v'.rangeAt g 1 (bv c) ∧ Vw v' pa ga 0 t2) := fun v' tv => by have q := hcell v' tv; rw [show kc (⟨256, n, gd S, [], [], [t2]⟩ : Bst).cbits (⟨256, n, gd S, [], [], [t2]⟩ : Bst).S t2 = c from HC.out.symm] at q; exact q
    clear hx19 hcell HX HT18
    go_wp2_with fail
    have bd : Below w19.heap.size w19 w19.drew := (Turn.drew (F := fun _ => False) w19).below (fun _ f => f.elim) (Nat.le_refl _)
    have HX0 : Hid (TwoX W0 w19.drew sb1 ⟨256, n, gd S, [], [t2], []⟩ sb2 ⟨256, n, gd S, [], [], [t2]⟩ [(gb, hA c)] F1' F2' ∧ Turn F2' w19 w19.drew) := ⟨H19.out.step bd, Turn.drew w19⟩
    have s0 : (w19.drew.cell? ⟨g, 0, none⟩ = some (.slice pa t2.length ca) ∧ w19.drew.rangeAt g 1 (bv c)) ∧ w19.drew.rangeAt gb 0 (bv c) := ⟨⟨(HL.out _ HX0.out.2).1, (HL.out _ HX0.out.2).2.1⟩, range_box (HX0.out.1.keep (gb, hA c) (by simp)).1⟩
    refine wp_region_held_drew (S := fun v => (v.cell? ⟨g, 0, none⟩ = some (.slice pa t2.length ca) ∧ v.rangeAt g 1 (bv c)) ∧ v.rangeAt gb 0 (bv c)) (by kernel_rfl) s0 ?_
    intro hS
    clear bd s0 H19
    change wpAnyH _ _ _ _ _ 22 _ _ _
    generalize w19.drew = wd at hS HX0 ⊢
    have eqc : ∀ w0 : World, (Op.equalIn 10000 31 (.agg (hA c)) (.agg (hA c))).run Tryd.prog w0 = .ok true w0 := fun w0 => by rw [eqH_any w0 _ _ HCC.out HCC.out, decide_eq_true rfl]
    refine wpAnyH_take (i := 0) (v := (.slice (some ⟨g, 0, none⟩) 1 cap)) (by simp only [List.getElem?_toArray, List.getElem?_cons_zero]; rfl) (by kernel_rfl) (by kernel_rfl) (by kernel_rfl) (by exact fun _ _ _ h => h) (y_move (by kernel_rfl) _ rfl _ rfl) hS ?_
    try simp only [Act.put, List.setIfInBounds_toArray, List.set_cons_zero, List.set_cons_succ]
    refine wpAnyH_take (i := 1) (v := (.pointer (some ⟨g, 0, none⟩))) (by simp only [List.getElem?_toArray, List.getElem?_cons_zero, List.getElem?_cons_succ]; rfl) (by kernel_rfl) (by kernel_rfl) (by kernel_rfl) (by exact fun _ _ _ h => h) (y_indexF (by kernel_rfl) _ rfl g cap rfl) hS ?_
    try simp only [Act.put, List.setIfInBounds_toArray, List.set_cons_zero, List.set_cons_succ]
    refine wpAnyH_take (i := 2) (v := (.pointer (some ⟨g, 0, none⟩))) (by simp only [List.getElem?_toArray, List.getElem?_cons_zero, List.getElem?_cons_succ]; rfl) (by kernel_rfl) (by kernel_rfl) (by kernel_rfl) (by exact fun _ _ _ h => h) (y_fieldF (by kernel_rfl) _ 0 rfl g 0 rfl (by decide)) hS ?_
    try simp only [Act.put, List.setIfInBounds_toArray, List.set_cons_zero, List.set_cons_succ]
    refine wpAnyH_take (i := 3) (v := (.slice pa t2.length ca)) (by simp only [List.getElem?_toArray, List.getElem?_cons_zero, List.getElem?_cons_succ]; rfl) (by kernel_rfl) (by kernel_rfl) (by kernel_rfl) (by exact fun _ _ _ h => h) (y_loadB (by kernel_rfl) _ rfl g 0 rfl _ (fun v hs => hs.1.1)) hS ?_
    try simp only [Act.put, List.setIfInBounds_toArray, List.set_cons_zero, List.set_cons_succ]
    refine wpAnyH_take (i := 4) (v := (.slice a2 t2.length c2)) (by simp only [List.getElem?_toArray, List.getElem?_cons_zero, List.getElem?_cons_succ]; rfl) (by kernel_rfl) (by kernel_rfl) (by kernel_rfl) (by exact fun _ _ _ h => h) (y_move (by kernel_rfl) _ rfl _ rfl) hS ?_
    try simp only [Act.put, List.setIfInBounds_toArray, List.set_cons_zero, List.set_cons_succ]
    try simp only [Act.put, List.setIfInBounds_toArray, List.set_cons_zero, List.set_cons_succ]
    refine wpAnyH_ready (rs := [5]) (by kernel_rfl) (by simp) ?_
    refine AllReadyH.cons (by simp only [List.getElem?_toArray, List.getElem?_cons_zero, List.getElem?_cons_succ]; rfl) (fun K hK => ?_) AllReadyH.nil
    refine r_call2 17 _ _ #[22, 22] rfl (by kernel_rfl) (.slice pa t2.length ca) (.slice a2 t2.length c2) rfl rfl (enters_of Tryd.func17 (by kernel_rfl) rfl) ((rsame_any wd pa a2 ga 0 ca b2 o2 c2 t2 t2 (HL.out _ HX0.out.2).2.2 (V2.out.1.below HX0.out.1.below)).mono ?_)
    rintro _ v20 ⟨rfl, q20, hv20⟩
    refine ⟨_, rfl, ?_⟩
    rw [decide_eq_true (rfl : t2 = t2)]
    have b20 : Below wd.heap.size wd v20 := by rw [hv20]; exact below_drewN (Below.refl _ _) q20
    have HX1 : Hid (TwoX W0 v20 sb1 ⟨256, n, gd S, [], [t2], []⟩ sb2 ⟨256, n, gd S, [], [], [t2]⟩ [(gb, hA c)] F1' F2' ∧ Turn F2' w19 v20) := ⟨HX0.out.1.step b20, HX0.out.2.trans (Turn.of_below b20 (F := F2')) (fun _ q => Or.inl q)⟩
    refine hK.out _ _ ⟨⟨(HL.out _ HX1.out.2).1, (HL.out _ HX1.out.2).2.1⟩, range_box (HX1.out.1.keep (gb, hA c) (by simp)).1⟩ (fun hS => ?_)
    clear hK K b20 hv20 HX0
    try simp only [Act.put, List.setIfInBounds_toArray, List.set_cons_zero, List.set_cons_succ]
    refine wpAnyH_take (i := 6) (v := (.bool false)) (by simp only [List.getElem?_toArray, List.getElem?_cons_zero, List.getElem?_cons_succ]; rfl) (by kernel_rfl) (by kernel_rfl) (by kernel_rfl) (by exact fun _ _ _ h => h) (y_notT (by kernel_rfl) _ rfl rfl) hS ?_
    try simp only [Act.put, List.setIfInBounds_toArray, List.set_cons_zero, List.set_cons_succ]
    refine wpAnyH_take (i := 7) (v := (.bool false)) (by simp only [List.getElem?_toArray, List.getElem?_cons_zero, List.getElem?_cons_succ]; rfl) (by kernel_rfl) (by kernel_rfl) (by kernel_rfl) (by exact fun _ _ _ h => h) (y_move (by kernel_rfl) _ rfl _ rfl) hS ?_
    try simp only [Act.put, List.setIfInBounds_toArray, List.set_cons_zero, List.set_cons_succ]
    refine wpAnyH_take (i := 8) (v := (.slice (some ⟨g, 0, none⟩) 1 cap)) (by simp only [List.getElem?_toArray, List.getElem?_cons_zero, List.getElem?_cons_succ]; rfl) (by kernel_rfl) (by kernel_rfl) (by kernel_rfl) (by exact fun _ _ _ h => h) (y_move (by kernel_rfl) _ rfl _ rfl) hS ?_
    try simp only [Act.put, List.setIfInBounds_toArray, List.set_cons_zero, List.set_cons_succ]
    refine wpAnyH_take (i := 9) (v := (.pointer (some ⟨g, 0, none⟩))) (by simp only [List.getElem?_toArray, List.getElem?_cons_zero, List.getElem?_cons_succ]; rfl) (by kernel_rfl) (by kernel_rfl) (by kernel_rfl) (by exact fun _ _ _ h => h) (y_indexF (by kernel_rfl) _ rfl g cap rfl) hS ?_
    try simp only [Act.put, List.setIfInBounds_toArray, List.set_cons_zero, List.set_cons_succ]
    refine wpAnyH_take (i := 10) (v := (.pointer (some ⟨g, 1, none⟩))) (by simp only [List.getElem?_toArray, List.getElem?_cons_zero, List.getElem?_cons_succ]; rfl) (by kernel_rfl) (by kernel_rfl) (by kernel_rfl) (by exact fun _ _ _ h => h) (y_fieldF (by kernel_rfl) _ 1 rfl g 0 rfl (by decide)) hS ?_
    try simp only [Act.put, List.setIfInBounds_toArray, List.set_cons_zero, List.set_cons_succ]
    refine wpAnyH_take (i := 11) (v := (.agg (hA c))) (by simp only [List.getElem?_toArray, List.getElem?_cons_zero, List.getElem?_cons_succ]; rfl) (by kernel_rfl) (by kernel_rfl) (by kernel_rfl) (by exact fun _ _ _ h => h) (yieldsIf_load_mid (by kernel_rfl) _ _ rfl g 1 rfl _ _ (fun v hs => hs.1.2) Tryd.underlying31 rfl (hL_len HCC.out)) hS ?_
    try simp only [Act.put, List.setIfInBounds_toArray, List.set_cons_zero, List.set_cons_succ]
    refine wpAnyH_take (i := 12) (v := (.agg (hA c))) (by simp only [List.getElem?_toArray, List.getElem?_cons_zero, List.getElem?_cons_succ]; rfl) (by kernel_rfl) (by kernel_rfl) (by kernel_rfl) (by exact fun _ _ _ h => h) (yieldsIf_load_mid (by kernel_rfl) _ _ rfl gb 0 rfl _ _ (fun v hs => hs.2) Tryd.underlying31 rfl (hL_len HCC.out)) hS ?_
    try simp only [Act.put, List.setIfInBounds_toArray, List.set_cons_zero, List.set_cons_succ]
    refine wpAnyH_take (i := 13) (v := (.bool false)) (by simp only [List.getElem?_toArray, List.getElem?_cons_zero, List.getElem?_cons_succ]; rfl) (by kernel_rfl) (by kernel_rfl) (by kernel_rfl) (by exact fun _ _ _ h => h) (y_neqH (by kernel_rfl) _ _ rfl (hA c) rfl rfl eqc) hS ?_
    try simp only [Act.put, List.setIfInBounds_toArray, List.set_cons_zero, List.set_cons_succ]
    refine wpAnyH_take (i := 14) (v := (.bool false)) (by simp only [List.getElem?_toArray, List.getElem?_cons_zero, List.getElem?_cons_succ]; rfl) (by kernel_rfl) (by kernel_rfl) (by kernel_rfl) (by exact fun _ _ _ h => h) (y_pick_f (by kernel_rfl) _ _ _ rfl _ rfl rfl) hS ?_
    try simp only [Act.put, List.setIfInBounds_toArray, List.set_cons_zero, List.set_cons_succ]
    refine wpAnyH_take (i := 15) (v := (.bool false)) (by simp only [List.getElem?_toArray, List.getElem?_cons_zero, List.getElem?_cons_succ]; rfl) (by kernel_rfl) (by kernel_rfl) (by kernel_rfl) (by exact fun _ _ _ h => h) (y_move (by kernel_rfl) _ rfl _ rfl) hS ?_
    try simp only [Act.put, List.setIfInBounds_toArray, List.set_cons_zero, List.set_cons_succ]
    refine wpAnyH_take (i := 16) (v := (.pointer (some ⟨sb2, 0, none⟩))) (by simp only [List.getElem?_toArray, List.getElem?_cons_zero, List.getElem?_cons_succ]; rfl) (by kernel_rfl) (by kernel_rfl) (by kernel_rfl) (by exact fun _ _ _ h => h) (y_move (by kernel_rfl) _ rfl _ rfl) hS ?_
    try simp only [Act.put, List.setIfInBounds_toArray, List.set_cons_zero, List.set_cons_succ]
    refine wpAnyH_take (i := 17) (v := (.slice a2 t2.length c2)) (by simp only [List.getElem?_toArray, List.getElem?_cons_zero, List.getElem?_cons_succ]; rfl) (by kernel_rfl) (by kernel_rfl) (by kernel_rfl) (by exact fun _ _ _ h => h) (y_move (by kernel_rfl) _ rfl _ rfl) hS ?_
    try simp only [Act.put, List.setIfInBounds_toArray, List.set_cons_zero, List.set_cons_succ]
    refine wpAnyH_take (i := 19) (v := (.agg (hA c))) (by simp only [List.getElem?_toArray, List.getElem?_cons_zero, List.getElem?_cons_succ]; rfl) (by kernel_rfl) (by kernel_rfl) (by kernel_rfl) (by exact fun _ _ _ h => h) (yieldsIf_load_mid (by kernel_rfl) _ _ rfl gb 0 rfl _ _ (fun v hs => hs.2) Tryd.underlying31 rfl (hL_len HCC.out)) hS ?_
    try simp only [Act.put, List.setIfInBounds_toArray, List.set_cons_zero, List.set_cons_succ]
    try simp only [Act.put, List.setIfInBounds_toArray, List.set_cons_zero, List.set_cons_succ]
    refine wpAnyH_ready (rs := [18]) (by kernel_rfl) (by simp) ?_
    refine AllReadyH.cons (by simp only [List.getElem?_toArray, List.getElem?_cons_zero, List.getElem?_cons_succ]; rfl) (fun K hK => ?_) AllReadyH.nil
    refine r_call2 11 _ _ #[25, 22] rfl (by kernel_rfl) (.pointer (some ⟨sb2, 0, none⟩)) (.slice a2 t2.length c2) rfl rfl (enters_of Tryd.func11 (by kernel_rfl) rfl) ((HX1.out.1.codes (by simp) a2 b2 o2 c2 t2 V2.out.1 V2.out.2.1 V2.out.2.2).mono ?_)
    rintro _ v21 ⟨rfl, ht, tn⟩
    refine ⟨_, rfl, ?_⟩
    have HT21 : Hid (Two4 W0 v21 sb1 ⟨256, n, gd S, [], [t2], []⟩ sb2 ⟨256, n, gd S, [], [t2], [t2]⟩ [(gb, hA c)]) := ht
    have tt := HX1.out.2.trans tn (fun _ q => Or.inl q)
    rw [show kc (⟨256, n, gd S, [], [], [t2]⟩ : Bst).cbits (⟨256, n, gd S, [], [], [t2]⟩ : Bst).S t2 = c from HC.out.symm]
    refine hK.out _ _ ⟨⟨(HL.out _ tt).1, (HL.out _ tt).2.1⟩, range_box (ht.cells (by simp))⟩ (fun hS => ?_)
    clear hK K ht tn tt HX1
    try simp only [Act.put, List.setIfInBounds_toArray, List.set_cons_zero, List.set_cons_succ]
    refine wpAnyH_take (i := 20) (v := (.bool false)) (by simp only [List.getElem?_toArray, List.getElem?_cons_zero, List.getElem?_cons_succ]; rfl) (by kernel_rfl) (by kernel_rfl) (by kernel_rfl) (by exact fun _ _ _ h => h) (y_neqH (by kernel_rfl) _ _ rfl (hA c) rfl rfl eqc) hS ?_
    try simp only [Act.put, List.setIfInBounds_toArray, List.set_cons_zero, List.set_cons_succ]
    refine wpAnyH_take (i := 21) (v := (.bool false)) (by simp only [List.getElem?_toArray, List.getElem?_cons_zero, List.getElem?_cons_succ]; rfl) (by kernel_rfl) (by kernel_rfl) (by kernel_rfl) (by exact fun _ _ _ h => h) (y_pick_f (by kernel_rfl) _ _ _ rfl _ rfl rfl) hS ?_
    try simp only [Act.put, List.setIfInBounds_toArray, List.set_cons_zero, List.set_cons_succ]
    refine wpAnyH_done (by kernel_rfl) ?_ _
    try simp only [Act.put, List.setIfInBounds_toArray, List.set_cons_zero, List.set_cons_succ]
    clear hS eqc
    go_wp2_with fail
    refine HT21.out.len2.mono ?_
    rintro _ w22 ⟨rfl, ht⟩
    have HT22 : Hid (Two4 W0 w22 sb1 ⟨256, n, gd S, [], [t2], []⟩ sb2 ⟨256, n, gd S, [], [t2], [t2]⟩ [(gb, hA c)]) := ht
    clear ht HT21
    go_wp2_with fail
    refine (HT22.out.forged1 rfl V2.out.2.2).mono ?_
    rintro _ w23 ⟨p23, c23, rfl, ht⟩
    have HT23 : Hid (Two4 W0 w23 sb1 ⟨256, n, gd S, [], [t2], []⟩ sb2 ⟨256, n, gd S, [], [t2], [t2]⟩ [(gb, hA c)]) := ht
    clear ht HT22
    have sd := HT23.out.sound1
    have vv : (decide (Lone (kh 256) []) && decide (Lone (kc n (gd S)) [t2]) && decide (([] : List (List Nat)).length = 0)) = true := by rw [decide_eq_true (lone_nil _), decide_eq_true (lone_one _ _)]; rfl
    rw [vv] at sd
    go_wp2_with fail
    refine sd.mono ?_
    rintro _ w24 ⟨rfl, ht⟩
    have HE : Hid (Below w.heap.size w w24) := HG.out.2.1.trans (ht.belowW.1.mono HG.out.2.1.size)
    clear ht HT23 sd vv
    go_wp2_with fail
    go_ret
    exact ⟨rfl, HE.out⟩
  · have eqk : ∀ w0 : World, (Op.equalIn 10000 31 (.agg (hA k)) (.agg (hA c))).run Tryd.prog w0 = .ok false w0 := fun w0 => by rw [eqH_any w0 _ _ HKK.out HCC.out, decide_eq_false hkc]
    have HE : Hid (kc n (gd S) t2 ≠ k) := fun e => hkc (HC.out.trans e).symm
    clear hkc
    have pd : Two4 W0 w10.drew sb1 ⟨256, n, gd S, [], [t2], []⟩ sb2 ⟨256, n, gd S, [], [], []⟩ [(gb, hA c)] := HT10.out.step ((Turn.drew (F := fun _ => False) w10).below (fun _ f => f.elim) (Nat.le_refl _))
    have s0 : w10.drew.rangeAt gw 0 (bv k) ∧ w10.drew.rangeAt gb 0 (bv c) := ⟨HGW.out _ pd.belowW.1, range_box (pd.cells (by simp))⟩
    have HT11 : Hid (Two4 W0 w10.drew sb1 ⟨256, n, gd S, [], [t2], []⟩ sb2 ⟨256, n, gd S, [], [], []⟩ [(gb, hA c)]) := pd
    refine wp_region_held_drew (S := fun v => v.rangeAt gw 0 (bv k) ∧ v.rangeAt gb 0 (bv c)) (by kernel_rfl) s0 ?_
    intro hS
    clear pd s0 HT10
    change wpAnyH _ _ _ _ _ 18 _ _ _
    generalize w10.drew = wd at hS HT11 ⊢
    refine wpAnyH_take (i := 0) (v := (.pointer (some ⟨sb1, 0, none⟩))) (by simp only [List.getElem?_toArray, List.getElem?_cons_zero]; rfl) (by kernel_rfl) (by kernel_rfl) (by kernel_rfl) (by exact fun _ _ _ h => h) (y_move (by kernel_rfl) _ rfl _ rfl) hS ?_
    try simp only [Act.put, List.setIfInBounds_toArray, List.set_cons_zero, List.set_cons_succ]
    refine wpAnyH_take (i := 1) (v := (.slice a2 t2.length c2)) (by simp only [List.getElem?_toArray, List.getElem?_cons_zero, List.getElem?_cons_succ]; rfl) (by kernel_rfl) (by kernel_rfl) (by kernel_rfl) (by exact fun _ _ _ h => h) (y_move (by kernel_rfl) _ rfl _ rfl) hS ?_
    try simp only [Act.put, List.setIfInBounds_toArray, List.set_cons_zero, List.set_cons_succ]
    refine wpAnyH_take (i := 2) (v := (.agg (hA k))) (by simp only [List.getElem?_toArray, List.getElem?_cons_zero, List.getElem?_cons_succ]; rfl) (by kernel_rfl) (by kernel_rfl) (by kernel_rfl) (by exact fun _ _ _ h => h) (yieldsIf_load_mid (by kernel_rfl) _ _ rfl gw 0 rfl _ _ (fun v hs => hs.1) Tryd.underlying31 rfl (hL_len HKK.out)) hS ?_
    try simp only [Act.put, List.setIfInBounds_toArray, List.set_cons_zero, List.set_cons_succ]
    refine wpAnyH_take (i := 4) (v := (.agg (hA k))) (by simp only [List.getElem?_toArray, List.getElem?_cons_zero, List.getElem?_cons_succ]; rfl) (by kernel_rfl) (by kernel_rfl) (by kernel_rfl) (by exact fun _ _ _ h => h) (yieldsIf_load_mid (by kernel_rfl) _ _ rfl gw 0 rfl _ _ (fun v hs => hs.1) Tryd.underlying31 rfl (hL_len HKK.out)) hS ?_
    try simp only [Act.put, List.setIfInBounds_toArray, List.set_cons_zero, List.set_cons_succ]
    refine wpAnyH_take (i := 5) (v := (.agg (hA c))) (by simp only [List.getElem?_toArray, List.getElem?_cons_zero, List.getElem?_cons_succ]; rfl) (by kernel_rfl) (by kernel_rfl) (by kernel_rfl) (by exact fun _ _ _ h => h) (yieldsIf_load_mid (by kernel_rfl) _ _ rfl gb 0 rfl _ _ (fun v hs => hs.2) Tryd.underlying31 rfl (hL_len HCC.out)) hS ?_
    try simp only [Act.put, List.setIfInBounds_toArray, List.set_cons_zero, List.set_cons_succ]
    refine wpAnyH_take (i := 6) (v := (.bool false)) (by simp only [List.getElem?_toArray, List.getElem?_cons_zero, List.getElem?_cons_succ]; rfl) (by kernel_rfl) (by kernel_rfl) (by kernel_rfl) (by exact fun _ _ _ h => h) (y_eqlH (by kernel_rfl) _ _ rfl (hA k) (hA c) rfl rfl false eqk) hS ?_
    try simp only [Act.put, List.setIfInBounds_toArray, List.set_cons_zero, List.set_cons_succ]
    try simp only [Act.put, List.setIfInBounds_toArray, List.set_cons_zero, List.set_cons_succ]
    refine wpAnyH_ready (rs := [3]) (by kernel_rfl) (by simp) ?_
    refine AllReadyH.cons (by simp only [List.getElem?_toArray, List.getElem?_cons_zero, List.getElem?_cons_succ]; rfl) (fun K hK => ?_) AllReadyH.nil
    refine r_call3 12 _ _ _ #[25, 22, 31] rfl (by kernel_rfl) (.pointer (some ⟨sb1, 0, none⟩)) (.slice a2 t2.length c2) (.agg (hA k)) rfl rfl rfl (enters_of Tryd.func12 (by kernel_rfl) rfl) ((HT11.out.no1 a2 b2 o2 c2 t2 V2.out.1 V2.out.2.1 k HKK.out HE.out).mono ?_)
    rintro _ v11 ⟨rfl, ht⟩
    refine ⟨_, rfl, ?_⟩
    have HT12 : Hid (Two4 W0 v11 sb1 ⟨256, n, gd S, [], [t2], []⟩ sb2 ⟨256, n, gd S, [], [], []⟩ [(gb, hA c)]) := ht
    refine hK.out _ _ ⟨HGW.out _ ht.belowW.1, range_box (ht.cells (by simp))⟩ (fun hS => ?_)
    clear hK K ht HT11
    try simp only [Act.put, List.setIfInBounds_toArray, List.set_cons_zero, List.set_cons_succ]
    refine wpAnyH_take (i := 7) (v := (.bool false)) (by simp only [List.getElem?_toArray, List.getElem?_cons_zero, List.getElem?_cons_succ]; rfl) (by kernel_rfl) (by kernel_rfl) (by kernel_rfl) (by exact fun _ _ _ h => h) (y_neqB (by kernel_rfl) _ _ rfl false rfl rfl) hS ?_
    try simp only [Act.put, List.setIfInBounds_toArray, List.set_cons_zero, List.set_cons_succ]
    refine wpAnyH_take (i := 8) (v := (.bool false)) (by simp only [List.getElem?_toArray, List.getElem?_cons_zero, List.getElem?_cons_succ]; rfl) (by kernel_rfl) (by kernel_rfl) (by kernel_rfl) (by exact fun _ _ _ h => h) (y_move (by kernel_rfl) _ rfl _ rfl) hS ?_
    try simp only [Act.put, List.setIfInBounds_toArray, List.set_cons_zero, List.set_cons_succ]
    refine wpAnyH_take (i := 9) (v := (.pointer (some ⟨sb2, 0, none⟩))) (by simp only [List.getElem?_toArray, List.getElem?_cons_zero, List.getElem?_cons_succ]; rfl) (by kernel_rfl) (by kernel_rfl) (by kernel_rfl) (by exact fun _ _ _ h => h) (y_move (by kernel_rfl) _ rfl _ rfl) hS ?_
    try simp only [Act.put, List.setIfInBounds_toArray, List.set_cons_zero, List.set_cons_succ]
    refine wpAnyH_take (i := 10) (v := (.slice a2 t2.length c2)) (by simp only [List.getElem?_toArray, List.getElem?_cons_zero, List.getElem?_cons_succ]; rfl) (by kernel_rfl) (by kernel_rfl) (by kernel_rfl) (by exact fun _ _ _ h => h) (y_move (by kernel_rfl) _ rfl _ rfl) hS ?_
    try simp only [Act.put, List.setIfInBounds_toArray, List.set_cons_zero, List.set_cons_succ]
    refine wpAnyH_take (i := 11) (v := (.agg (hA k))) (by simp only [List.getElem?_toArray, List.getElem?_cons_zero, List.getElem?_cons_succ]; rfl) (by kernel_rfl) (by kernel_rfl) (by kernel_rfl) (by exact fun _ _ _ h => h) (yieldsIf_load_mid (by kernel_rfl) _ _ rfl gw 0 rfl _ _ (fun v hs => hs.1) Tryd.underlying31 rfl (hL_len HKK.out)) hS ?_
    try simp only [Act.put, List.setIfInBounds_toArray, List.set_cons_zero, List.set_cons_succ]
    refine wpAnyH_take (i := 13) (v := (.agg (hA k))) (by simp only [List.getElem?_toArray, List.getElem?_cons_zero, List.getElem?_cons_succ]; rfl) (by kernel_rfl) (by kernel_rfl) (by kernel_rfl) (by exact fun _ _ _ h => h) (yieldsIf_load_mid (by kernel_rfl) _ _ rfl gw 0 rfl _ _ (fun v hs => hs.1) Tryd.underlying31 rfl (hL_len HKK.out)) hS ?_
    try simp only [Act.put, List.setIfInBounds_toArray, List.set_cons_zero, List.set_cons_succ]
    refine wpAnyH_take (i := 14) (v := (.agg (hA c))) (by simp only [List.getElem?_toArray, List.getElem?_cons_zero, List.getElem?_cons_succ]; rfl) (by kernel_rfl) (by kernel_rfl) (by kernel_rfl) (by exact fun _ _ _ h => h) (yieldsIf_load_mid (by kernel_rfl) _ _ rfl gb 0 rfl _ _ (fun v hs => hs.2) Tryd.underlying31 rfl (hL_len HCC.out)) hS ?_
    try simp only [Act.put, List.setIfInBounds_toArray, List.set_cons_zero, List.set_cons_succ]
    refine wpAnyH_take (i := 15) (v := (.bool false)) (by simp only [List.getElem?_toArray, List.getElem?_cons_zero, List.getElem?_cons_succ]; rfl) (by kernel_rfl) (by kernel_rfl) (by kernel_rfl) (by exact fun _ _ _ h => h) (y_eqlH (by kernel_rfl) _ _ rfl (hA k) (hA c) rfl rfl false eqk) hS ?_
    try simp only [Act.put, List.setIfInBounds_toArray, List.set_cons_zero, List.set_cons_succ]
    try simp only [Act.put, List.setIfInBounds_toArray, List.set_cons_zero, List.set_cons_succ]
    refine wpAnyH_ready (rs := [12]) (by kernel_rfl) (by simp) ?_
    refine AllReadyH.cons (by simp only [List.getElem?_toArray, List.getElem?_cons_zero, List.getElem?_cons_succ]; rfl) (fun K hK => ?_) AllReadyH.nil
    refine r_call3 12 _ _ _ #[25, 22, 31] rfl (by kernel_rfl) (.pointer (some ⟨sb2, 0, none⟩)) (.slice a2 t2.length c2) (.agg (hA k)) rfl rfl rfl (enters_of Tryd.func12 (by kernel_rfl) rfl) ((HT12.out.no2 a2 b2 o2 c2 t2 V2.out.1 V2.out.2.1 k HKK.out HE.out).mono ?_)
    rintro _ v12 ⟨rfl, ht⟩
    refine ⟨_, rfl, ?_⟩
    have HT13 : Hid (∃ LF, LF = [] ∨ LF = [t2]) := ⟨[], by simp⟩
    have HT14 : Hid (Two4 W0 v12 sb1 ⟨256, n, gd S, [], [t2], []⟩ sb2 ⟨256, n, gd S, [], [], []⟩ [(gb, hA c)]) := ht
    refine hK.out _ _ ⟨HGW.out _ ht.belowW.1, range_box (ht.cells (by simp))⟩ (fun hS => ?_)
    clear hK K ht HT12 HT13
    try simp only [Act.put, List.setIfInBounds_toArray, List.set_cons_zero, List.set_cons_succ]
    refine wpAnyH_take (i := 16) (v := (.bool false)) (by simp only [List.getElem?_toArray, List.getElem?_cons_zero, List.getElem?_cons_succ]; rfl) (by kernel_rfl) (by kernel_rfl) (by kernel_rfl) (by exact fun _ _ _ h => h) (y_neqB (by kernel_rfl) _ _ rfl false rfl rfl) hS ?_
    try simp only [Act.put, List.setIfInBounds_toArray, List.set_cons_zero, List.set_cons_succ]
    refine wpAnyH_take (i := 17) (v := (.bool false)) (by simp only [List.getElem?_toArray, List.getElem?_cons_zero, List.getElem?_cons_succ]; rfl) (by kernel_rfl) (by kernel_rfl) (by kernel_rfl) (by exact fun _ _ _ h => h) (y_pick_f (by kernel_rfl) _ _ _ rfl _ rfl rfl) hS ?_
    try simp only [Act.put, List.setIfInBounds_toArray, List.set_cons_zero, List.set_cons_succ]
    refine wpAnyH_done (by kernel_rfl) ?_ _
    try simp only [Act.put, List.setIfInBounds_toArray, List.set_cons_zero, List.set_cons_succ]
    clear hS eqk
    have hcl : ∀ j, j < (hA c).size → v12.cell? ⟨gb, j, none⟩ = (hA c)[j]? := fun j _ => cell_of_row _ _ _ _ 31 _ (HT14.out.cells (by simp))
    go_wp2_with (refine wpList_load_cells_g (by rfl) 31 (.tmp 14) (by rfl) gb (by rfl) (hA c) _ hcl Tryd.underlying31 (by rfl) hi3 ?_)
    refine (HT14.out.forge2 (by simp) (by simp) a2 b2 o2 c2 t2 V2.out.1 V2.out.2.1 V2.out.2.2 c hcc HC.out (by simp)).mono ?_
    rintro _ w15 ⟨rfl, ht⟩
    have HT15 : Hid (Two4 W0 w15 sb1 ⟨256, n, gd S, [], [t2], []⟩ sb2 ⟨256, n, gd S, [], [], [t2]⟩ [(gb, hA c)]) := by exact ht
    clear ht HT14 hcl
    have hcl : ∀ j, j < (hA c).size → w15.cell? ⟨gb, j, none⟩ = (hA c)[j]? := fun j _ => cell_of_row _ _ _ _ 31 _ (HT15.out.cells (by simp))
    go_wp2_with (refine wpList_load_cells_g (by rfl) 31 (.tmp 14) (by rfl) gb (by rfl) (hA c) _ hcl Tryd.underlying31 (by rfl) hi3 ?_)
    refine (HT15.out.forge2 (by simp) (by simp) a2 b2 o2 c2 t2 V2.out.1 V2.out.2.1 V2.out.2.2 c hcc HC.out (by simp)).mono ?_
    rintro _ w16 ⟨rfl, ht⟩
    have HT16 : Hid (Two4 W0 w16 sb1 ⟨256, n, gd S, [], [t2], []⟩ sb2 ⟨256, n, gd S, [], [], [t2]⟩ [(gb, hA c)]) := by rw [show ({ (⟨256, n, gd S, [], [], [t2]⟩ : Bst) with LF := ins t2 [t2] } : Bst) = ⟨256, n, gd S, [], [], [t2]⟩ by rw [ins_one]] at ht; exact ht
    clear ht HT15 hcl
    have sd := HT16.out.sound2
    have vv : (decide (Lone (kh 256) []) && decide (Lone (kc n (gd S)) []) && decide (([t2] : List (List Nat)).length = 0)) = false := by simp
    rw [vv] at sd
    go_wp2_with fail
    refine sd.mono ?_
    rintro _ w17 ⟨rfl, ht⟩
    have HT17 : Hid (Two4 W0 w17 sb1 ⟨256, n, gd S, [], [t2], []⟩ sb2 ⟨256, n, gd S, [], [], [t2]⟩ [(gb, hA c)]) := ht
    clear ht HT16 sd vv
    go_wp2_with fail
    refine (HT17.out.forged1 rfl V2.out.2.2).mono ?_
    rintro _ w18 ⟨p18, c18, rfl, ht⟩
    have HT18 : Hid (Two4 W0 w18 sb1 ⟨256, n, gd S, [], [t2], []⟩ sb2 ⟨256, n, gd S, [], [], [t2]⟩ [(gb, hA c)]) := ht
    clear ht HT17
    go_wp2_with fail
    obtain ⟨F1', F2', HX⟩ := HT18.out
    refine (HX.forged_one rfl V2.out.2.2).mono ?_
    rintro _ w19 ⟨g, cap, pa, ga, ca, rfl, hx19, hcell⟩
    have H19 : Hid (TwoX W0 w19 sb1 ⟨256, n, gd S, [], [t2], []⟩ sb2 ⟨256, n, gd S, [], [], [t2]⟩ [(gb, hA c)] F1' F2') := hx19
    have HL : Hid (∀ v', Turn F2' w19 v' → v'.cell? ⟨g, 0, none⟩ = some (.slice pa t2.length ca) ∧ v'.rangeAt g 1 (bv c) ∧ Vw v' pa ga 0 t2) := fun v' tv => by have q := hcell v' tv; rw [show kc (⟨256, n, gd S, [], [], [t2]⟩ : Bst).cbits (⟨256, n, gd S, [], [], [t2]⟩ : Bst).S t2 = c from HC.out.symm] at q; exact q
    clear hx19 hcell HX HT18
    go_wp2_with fail
    have bd : Below w19.heap.size w19 w19.drew := (Turn.drew (F := fun _ => False) w19).below (fun _ f => f.elim) (Nat.le_refl _)
    have HX0 : Hid (TwoX W0 w19.drew sb1 ⟨256, n, gd S, [], [t2], []⟩ sb2 ⟨256, n, gd S, [], [], [t2]⟩ [(gb, hA c)] F1' F2' ∧ Turn F2' w19 w19.drew) := ⟨H19.out.step bd, Turn.drew w19⟩
    have s0 : (w19.drew.cell? ⟨g, 0, none⟩ = some (.slice pa t2.length ca) ∧ w19.drew.rangeAt g 1 (bv c)) ∧ w19.drew.rangeAt gb 0 (bv c) := ⟨⟨(HL.out _ HX0.out.2).1, (HL.out _ HX0.out.2).2.1⟩, range_box (HX0.out.1.keep (gb, hA c) (by simp)).1⟩
    refine wp_region_held_drew (S := fun v => (v.cell? ⟨g, 0, none⟩ = some (.slice pa t2.length ca) ∧ v.rangeAt g 1 (bv c)) ∧ v.rangeAt gb 0 (bv c)) (by kernel_rfl) s0 ?_
    intro hS
    clear bd s0 H19
    change wpAnyH _ _ _ _ _ 22 _ _ _
    generalize w19.drew = wd at hS HX0 ⊢
    have eqc : ∀ w0 : World, (Op.equalIn 10000 31 (.agg (hA c)) (.agg (hA c))).run Tryd.prog w0 = .ok true w0 := fun w0 => by rw [eqH_any w0 _ _ HCC.out HCC.out, decide_eq_true rfl]
    refine wpAnyH_take (i := 0) (v := (.slice (some ⟨g, 0, none⟩) 1 cap)) (by simp only [List.getElem?_toArray, List.getElem?_cons_zero]; rfl) (by kernel_rfl) (by kernel_rfl) (by kernel_rfl) (by exact fun _ _ _ h => h) (y_move (by kernel_rfl) _ rfl _ rfl) hS ?_
    try simp only [Act.put, List.setIfInBounds_toArray, List.set_cons_zero, List.set_cons_succ]
    refine wpAnyH_take (i := 1) (v := (.pointer (some ⟨g, 0, none⟩))) (by simp only [List.getElem?_toArray, List.getElem?_cons_zero, List.getElem?_cons_succ]; rfl) (by kernel_rfl) (by kernel_rfl) (by kernel_rfl) (by exact fun _ _ _ h => h) (y_indexF (by kernel_rfl) _ rfl g cap rfl) hS ?_
    try simp only [Act.put, List.setIfInBounds_toArray, List.set_cons_zero, List.set_cons_succ]
    refine wpAnyH_take (i := 2) (v := (.pointer (some ⟨g, 0, none⟩))) (by simp only [List.getElem?_toArray, List.getElem?_cons_zero, List.getElem?_cons_succ]; rfl) (by kernel_rfl) (by kernel_rfl) (by kernel_rfl) (by exact fun _ _ _ h => h) (y_fieldF (by kernel_rfl) _ 0 rfl g 0 rfl (by decide)) hS ?_
    try simp only [Act.put, List.setIfInBounds_toArray, List.set_cons_zero, List.set_cons_succ]
    refine wpAnyH_take (i := 3) (v := (.slice pa t2.length ca)) (by simp only [List.getElem?_toArray, List.getElem?_cons_zero, List.getElem?_cons_succ]; rfl) (by kernel_rfl) (by kernel_rfl) (by kernel_rfl) (by exact fun _ _ _ h => h) (y_loadB (by kernel_rfl) _ rfl g 0 rfl _ (fun v hs => hs.1.1)) hS ?_
    try simp only [Act.put, List.setIfInBounds_toArray, List.set_cons_zero, List.set_cons_succ]
    refine wpAnyH_take (i := 4) (v := (.slice a2 t2.length c2)) (by simp only [List.getElem?_toArray, List.getElem?_cons_zero, List.getElem?_cons_succ]; rfl) (by kernel_rfl) (by kernel_rfl) (by kernel_rfl) (by exact fun _ _ _ h => h) (y_move (by kernel_rfl) _ rfl _ rfl) hS ?_
    try simp only [Act.put, List.setIfInBounds_toArray, List.set_cons_zero, List.set_cons_succ]
    try simp only [Act.put, List.setIfInBounds_toArray, List.set_cons_zero, List.set_cons_succ]
    refine wpAnyH_ready (rs := [5]) (by kernel_rfl) (by simp) ?_
    refine AllReadyH.cons (by simp only [List.getElem?_toArray, List.getElem?_cons_zero, List.getElem?_cons_succ]; rfl) (fun K hK => ?_) AllReadyH.nil
    refine r_call2 17 _ _ #[22, 22] rfl (by kernel_rfl) (.slice pa t2.length ca) (.slice a2 t2.length c2) rfl rfl (enters_of Tryd.func17 (by kernel_rfl) rfl) ((rsame_any wd pa a2 ga 0 ca b2 o2 c2 t2 t2 (HL.out _ HX0.out.2).2.2 (V2.out.1.below HX0.out.1.below)).mono ?_)
    rintro _ v20 ⟨rfl, q20, hv20⟩
    refine ⟨_, rfl, ?_⟩
    rw [decide_eq_true (rfl : t2 = t2)]
    have b20 : Below wd.heap.size wd v20 := by rw [hv20]; exact below_drewN (Below.refl _ _) q20
    have HX1 : Hid (TwoX W0 v20 sb1 ⟨256, n, gd S, [], [t2], []⟩ sb2 ⟨256, n, gd S, [], [], [t2]⟩ [(gb, hA c)] F1' F2' ∧ Turn F2' w19 v20) := ⟨HX0.out.1.step b20, HX0.out.2.trans (Turn.of_below b20 (F := F2')) (fun _ q => Or.inl q)⟩
    refine hK.out _ _ ⟨⟨(HL.out _ HX1.out.2).1, (HL.out _ HX1.out.2).2.1⟩, range_box (HX1.out.1.keep (gb, hA c) (by simp)).1⟩ (fun hS => ?_)
    clear hK K b20 hv20 HX0
    try simp only [Act.put, List.setIfInBounds_toArray, List.set_cons_zero, List.set_cons_succ]
    refine wpAnyH_take (i := 6) (v := (.bool false)) (by simp only [List.getElem?_toArray, List.getElem?_cons_zero, List.getElem?_cons_succ]; rfl) (by kernel_rfl) (by kernel_rfl) (by kernel_rfl) (by exact fun _ _ _ h => h) (y_notT (by kernel_rfl) _ rfl rfl) hS ?_
    try simp only [Act.put, List.setIfInBounds_toArray, List.set_cons_zero, List.set_cons_succ]
    refine wpAnyH_take (i := 7) (v := (.bool false)) (by simp only [List.getElem?_toArray, List.getElem?_cons_zero, List.getElem?_cons_succ]; rfl) (by kernel_rfl) (by kernel_rfl) (by kernel_rfl) (by exact fun _ _ _ h => h) (y_move (by kernel_rfl) _ rfl _ rfl) hS ?_
    try simp only [Act.put, List.setIfInBounds_toArray, List.set_cons_zero, List.set_cons_succ]
    refine wpAnyH_take (i := 8) (v := (.slice (some ⟨g, 0, none⟩) 1 cap)) (by simp only [List.getElem?_toArray, List.getElem?_cons_zero, List.getElem?_cons_succ]; rfl) (by kernel_rfl) (by kernel_rfl) (by kernel_rfl) (by exact fun _ _ _ h => h) (y_move (by kernel_rfl) _ rfl _ rfl) hS ?_
    try simp only [Act.put, List.setIfInBounds_toArray, List.set_cons_zero, List.set_cons_succ]
    refine wpAnyH_take (i := 9) (v := (.pointer (some ⟨g, 0, none⟩))) (by simp only [List.getElem?_toArray, List.getElem?_cons_zero, List.getElem?_cons_succ]; rfl) (by kernel_rfl) (by kernel_rfl) (by kernel_rfl) (by exact fun _ _ _ h => h) (y_indexF (by kernel_rfl) _ rfl g cap rfl) hS ?_
    try simp only [Act.put, List.setIfInBounds_toArray, List.set_cons_zero, List.set_cons_succ]
    refine wpAnyH_take (i := 10) (v := (.pointer (some ⟨g, 1, none⟩))) (by simp only [List.getElem?_toArray, List.getElem?_cons_zero, List.getElem?_cons_succ]; rfl) (by kernel_rfl) (by kernel_rfl) (by kernel_rfl) (by exact fun _ _ _ h => h) (y_fieldF (by kernel_rfl) _ 1 rfl g 0 rfl (by decide)) hS ?_
    try simp only [Act.put, List.setIfInBounds_toArray, List.set_cons_zero, List.set_cons_succ]
    refine wpAnyH_take (i := 11) (v := (.agg (hA c))) (by simp only [List.getElem?_toArray, List.getElem?_cons_zero, List.getElem?_cons_succ]; rfl) (by kernel_rfl) (by kernel_rfl) (by kernel_rfl) (by exact fun _ _ _ h => h) (yieldsIf_load_mid (by kernel_rfl) _ _ rfl g 1 rfl _ _ (fun v hs => hs.1.2) Tryd.underlying31 rfl (hL_len HCC.out)) hS ?_
    try simp only [Act.put, List.setIfInBounds_toArray, List.set_cons_zero, List.set_cons_succ]
    refine wpAnyH_take (i := 12) (v := (.agg (hA c))) (by simp only [List.getElem?_toArray, List.getElem?_cons_zero, List.getElem?_cons_succ]; rfl) (by kernel_rfl) (by kernel_rfl) (by kernel_rfl) (by exact fun _ _ _ h => h) (yieldsIf_load_mid (by kernel_rfl) _ _ rfl gb 0 rfl _ _ (fun v hs => hs.2) Tryd.underlying31 rfl (hL_len HCC.out)) hS ?_
    try simp only [Act.put, List.setIfInBounds_toArray, List.set_cons_zero, List.set_cons_succ]
    refine wpAnyH_take (i := 13) (v := (.bool false)) (by simp only [List.getElem?_toArray, List.getElem?_cons_zero, List.getElem?_cons_succ]; rfl) (by kernel_rfl) (by kernel_rfl) (by kernel_rfl) (by exact fun _ _ _ h => h) (y_neqH (by kernel_rfl) _ _ rfl (hA c) rfl rfl eqc) hS ?_
    try simp only [Act.put, List.setIfInBounds_toArray, List.set_cons_zero, List.set_cons_succ]
    refine wpAnyH_take (i := 14) (v := (.bool false)) (by simp only [List.getElem?_toArray, List.getElem?_cons_zero, List.getElem?_cons_succ]; rfl) (by kernel_rfl) (by kernel_rfl) (by kernel_rfl) (by exact fun _ _ _ h => h) (y_pick_f (by kernel_rfl) _ _ _ rfl _ rfl rfl) hS ?_
    try simp only [Act.put, List.setIfInBounds_toArray, List.set_cons_zero, List.set_cons_succ]
    refine wpAnyH_take (i := 15) (v := (.bool false)) (by simp only [List.getElem?_toArray, List.getElem?_cons_zero, List.getElem?_cons_succ]; rfl) (by kernel_rfl) (by kernel_rfl) (by kernel_rfl) (by exact fun _ _ _ h => h) (y_move (by kernel_rfl) _ rfl _ rfl) hS ?_
    try simp only [Act.put, List.setIfInBounds_toArray, List.set_cons_zero, List.set_cons_succ]
    refine wpAnyH_take (i := 16) (v := (.pointer (some ⟨sb2, 0, none⟩))) (by simp only [List.getElem?_toArray, List.getElem?_cons_zero, List.getElem?_cons_succ]; rfl) (by kernel_rfl) (by kernel_rfl) (by kernel_rfl) (by exact fun _ _ _ h => h) (y_move (by kernel_rfl) _ rfl _ rfl) hS ?_
    try simp only [Act.put, List.setIfInBounds_toArray, List.set_cons_zero, List.set_cons_succ]
    refine wpAnyH_take (i := 17) (v := (.slice a2 t2.length c2)) (by simp only [List.getElem?_toArray, List.getElem?_cons_zero, List.getElem?_cons_succ]; rfl) (by kernel_rfl) (by kernel_rfl) (by kernel_rfl) (by exact fun _ _ _ h => h) (y_move (by kernel_rfl) _ rfl _ rfl) hS ?_
    try simp only [Act.put, List.setIfInBounds_toArray, List.set_cons_zero, List.set_cons_succ]
    refine wpAnyH_take (i := 19) (v := (.agg (hA c))) (by simp only [List.getElem?_toArray, List.getElem?_cons_zero, List.getElem?_cons_succ]; rfl) (by kernel_rfl) (by kernel_rfl) (by kernel_rfl) (by exact fun _ _ _ h => h) (yieldsIf_load_mid (by kernel_rfl) _ _ rfl gb 0 rfl _ _ (fun v hs => hs.2) Tryd.underlying31 rfl (hL_len HCC.out)) hS ?_
    try simp only [Act.put, List.setIfInBounds_toArray, List.set_cons_zero, List.set_cons_succ]
    try simp only [Act.put, List.setIfInBounds_toArray, List.set_cons_zero, List.set_cons_succ]
    refine wpAnyH_ready (rs := [18]) (by kernel_rfl) (by simp) ?_
    refine AllReadyH.cons (by simp only [List.getElem?_toArray, List.getElem?_cons_zero, List.getElem?_cons_succ]; rfl) (fun K hK => ?_) AllReadyH.nil
    refine r_call2 11 _ _ #[25, 22] rfl (by kernel_rfl) (.pointer (some ⟨sb2, 0, none⟩)) (.slice a2 t2.length c2) rfl rfl (enters_of Tryd.func11 (by kernel_rfl) rfl) ((HX1.out.1.codes (by simp) a2 b2 o2 c2 t2 V2.out.1 V2.out.2.1 V2.out.2.2).mono ?_)
    rintro _ v21 ⟨rfl, ht, tn⟩
    refine ⟨_, rfl, ?_⟩
    have HT21 : Hid (Two4 W0 v21 sb1 ⟨256, n, gd S, [], [t2], []⟩ sb2 ⟨256, n, gd S, [], [t2], [t2]⟩ [(gb, hA c)]) := ht
    have tt := HX1.out.2.trans tn (fun _ q => Or.inl q)
    rw [show kc (⟨256, n, gd S, [], [], [t2]⟩ : Bst).cbits (⟨256, n, gd S, [], [], [t2]⟩ : Bst).S t2 = c from HC.out.symm]
    refine hK.out _ _ ⟨⟨(HL.out _ tt).1, (HL.out _ tt).2.1⟩, range_box (ht.cells (by simp))⟩ (fun hS => ?_)
    clear hK K ht tn tt HX1
    try simp only [Act.put, List.setIfInBounds_toArray, List.set_cons_zero, List.set_cons_succ]
    refine wpAnyH_take (i := 20) (v := (.bool false)) (by simp only [List.getElem?_toArray, List.getElem?_cons_zero, List.getElem?_cons_succ]; rfl) (by kernel_rfl) (by kernel_rfl) (by kernel_rfl) (by exact fun _ _ _ h => h) (y_neqH (by kernel_rfl) _ _ rfl (hA c) rfl rfl eqc) hS ?_
    try simp only [Act.put, List.setIfInBounds_toArray, List.set_cons_zero, List.set_cons_succ]
    refine wpAnyH_take (i := 21) (v := (.bool false)) (by simp only [List.getElem?_toArray, List.getElem?_cons_zero, List.getElem?_cons_succ]; rfl) (by kernel_rfl) (by kernel_rfl) (by kernel_rfl) (by exact fun _ _ _ h => h) (y_pick_f (by kernel_rfl) _ _ _ rfl _ rfl rfl) hS ?_
    try simp only [Act.put, List.setIfInBounds_toArray, List.set_cons_zero, List.set_cons_succ]
    refine wpAnyH_done (by kernel_rfl) ?_ _
    try simp only [Act.put, List.setIfInBounds_toArray, List.set_cons_zero, List.set_cons_succ]
    clear hS eqc
    go_wp2_with fail
    refine HT21.out.len2.mono ?_
    rintro _ w22 ⟨rfl, ht⟩
    have HT22 : Hid (Two4 W0 w22 sb1 ⟨256, n, gd S, [], [t2], []⟩ sb2 ⟨256, n, gd S, [], [t2], [t2]⟩ [(gb, hA c)]) := ht
    clear ht HT21
    go_wp2_with fail
    refine (HT22.out.forged1 rfl V2.out.2.2).mono ?_
    rintro _ w23 ⟨p23, c23, rfl, ht⟩
    have HT23 : Hid (Two4 W0 w23 sb1 ⟨256, n, gd S, [], [t2], []⟩ sb2 ⟨256, n, gd S, [], [t2], [t2]⟩ [(gb, hA c)]) := ht
    clear ht HT22
    have sd := HT23.out.sound1
    have vv : (decide (Lone (kh 256) []) && decide (Lone (kc n (gd S)) [t2]) && decide (([] : List (List Nat)).length = 0)) = true := by rw [decide_eq_true (lone_nil _), decide_eq_true (lone_one _ _)]; rfl
    rw [vv] at sd
    go_wp2_with fail
    refine sd.mono ?_
    rintro _ w24 ⟨rfl, ht⟩
    have HE : Hid (Below w.heap.size w w24) := HG.out.2.1.trans (ht.belowW.1.mono HG.out.2.1.size)
    clear ht HT23 sd vv
    go_wp2_with fail
    go_ret
    exact ⟨rfl, HE.out⟩
end Go.Proofs.YtlhllbggnpcoaaaDoor
