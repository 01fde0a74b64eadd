import Derived.Test.YtlhllbggnpcoaaaGreatDoorRBc
/-
  The reference's book: Accept.
-/
namespace Go.Proofs.YtlhllbggnpcoaaaGreatDoor
open Go.RowKit Go.Sort Go.Maps

theorem RTurned.of_below {w w' : World} {B qb : Nat} {st : Bst} {F : Nat → Prop} (h : RB w B qb st F) (hb : Below w.heap.size w w') : RTurned w w' B qb st F :=
  ⟨⟨F, fun _ q => q, fun _ q => Or.inl q, h.below hb⟩, Turn.of_below hb⟩

set_option maxRecDepth 100000 in
set_option maxHeartbeats 3200000 in
theorem rb_accept_no (w : World) (B qb : Nat) (st : Bst) (F : Nat → Prop) (h : RB w B qb st F) (hG : Gr w) (a : Option Addr) (b o c : Nat) (t : List Nat) (ht : Vw w a b o t) (hnil : a = none → c = 0) (hs : t.length ≤ 140737488351232) (k : List Nat) (hkH : IsH k) (hne : kc st.cbits st.S t ≠ k) :
    Calls Tryz.prog 41 #[.pointer (some ⟨qb, 0, none⟩), .slice a t.length c, .agg (hA k)] w fun e w' => e = .returned (.bool false) ∧ RTurned w w' B qb st F := by
  obtain ⟨sa, sB, sc, ah, ch, ac, cc, af, cf, Qh, Qc, Qf, hk⟩ := h
  have z64 := (zero_of_info infoH).1
  have b1' : Below w.heap.size w (w.alloc (.cells (hA k) 31)) := (Below.refl _ _).alloc (Nat.le_refl _) _
  obtain ⟨w1, hw1⟩ : ∃ w1, w1 = w.alloc (.cells (hA k) 31) := ⟨_, rfl⟩
  have hrs : w1.heap[w.heap.size]? = some (.cells (hA k) 31 (0, 0)) := by rw [hw1]; exact heap_alloc_new _ _
  have lrs : w.heap.size < w1.heap.size := by rw [hw1]; simp
  rw [← hw1] at b1'
  have HCE : Hid (∀ v, Below w1.heap.size w1 v → v.cell? ⟨qb, 1, none⟩ = some (.int .i64 (st.cbits : Nat)) ∧ v.cell? ⟨qb, 2, none⟩ = some (.slice sa 32 sc)) := fun v hv => ⟨((hk.below b1').below hv).row.cell (i := 1) (by decide), ((hk.below b1').below hv).row.cell (i := 2) (by decide)⟩
  have HCC : Hid (∀ v, Below w1.heap.size w1 v → Calls Tryz.prog 66 #[.int .i64 (st.cbits : Nat), .slice sa 32 sc, .slice a t.length c] v fun e w' => e = .returned (.agg (hA (kc st.cbits st.S t))) ∧ Below v.heap.size v w') := fun v hv => rcodeN_any v st.cbits hk.b2.2 sa sB 0 sc st.S ((hk.below b1').below hv).sec hk.S8 (fun e => by have := hk.sec.at_ (by decide); rw [e] at this; cases this) a b o c t ((ht.below b1').below hv) hnil (by omega) ((hG.below b1').below hv)
  have HB : Hid (Below w.heap.size w w1 ∧ w1.heap[w.heap.size]? = some (.cells (hA k) 31 (0, 0)) ∧ w.heap.size < w1.heap.size) := ⟨b1', hrs, lrs⟩
  have HR : Hid (RBk w B qb st F sa sB sc ah ch ac cc af cf Qh Qc Qf) := hk
  have HT : Hid (Vw w a b o t ∧ (a = none → c = 0) ∧ t.length ≤ 140737488351232) := ⟨ht, hnil, hs⟩
  have hkk := kc_isH st.cbits st.S t
  obtain ⟨kk, ekk⟩ : ∃ kk, kk = kc st.cbits st.S t := ⟨_, rfl⟩
  have HKE : Hid (kk = kc st.cbits st.S t) := ekk
  have HNE : Hid (kk ≠ k) := by rw [ekk]; exact hne
  clear hne
  rw [← ekk] at HCC hkk
  have HKH : Hid (IsH kk) := hkk
  have hi3 := hA_info hkk
  have hi4 := hA_info hkH
  clear ekk hk hG ht hnil hs b1' hrs lrs
  go_enter Tryz.func41, Tryz.ntmps41
  go_upto_region 1 with fail
  rw [← hw1]
  clear hw1
  go_cut [7] from 10 to 20 (fun s wc => ∃ g, s = .pointer (some ⟨g, 0, none⟩) ∧ wc.heap[g]? = some (.cells (hA kk) 31 (0, 0)) ∧ Below w1.heap.size w1 wc ∧ w1.heap.size ≤ g)
  case first =>
    have bd : Below w1.heap.size w1 w1.drew := (Turn.drew (F := fun _ => False) w1).below (fun _ f => f.elim) (Nat.le_refl _)
    have HBD : Hid (Below w1.heap.size w1 w1.drew) := bd
    refine wp_region_held_drew (S := fun v => Below w1.heap.size w1 v) (by kernel_rfl) bd ?_
    intro hS
    clear bd
    change wpAnyH _ _ _ _ _ 12 _ _ _
    generalize w1.drew = wd at hS HBD ⊢
    refine wpAnyH_take (i := 0) (v := (.pointer (some ⟨qb, 0, none⟩))) (by simp only [List.getElem?_toArray, List.getElem?_cons_zero]; rfl) (by kernel_rfl) (by kernel_rfl) (by kernel_rfl) (by exact fun _ _ _ h => h) (y_move (by kernel_rfl) _ rfl _ rfl) hS ?_
    try simp only [Act.put, List.setIfInBounds_toArray, List.set_cons_zero, List.set_cons_succ]
    refine wpAnyH_take (i := 1) (v := (.pointer (some ⟨qb, 0, none⟩))) (by simp only [List.getElem?_toArray, List.getElem?_cons_zero, List.getElem?_cons_succ]; rfl) (by kernel_rfl) (by kernel_rfl) (by kernel_rfl) (by exact fun _ _ _ h => h) (y_nil (by kernel_rfl) _ rfl _ rfl) hS ?_
    try simp only [Act.put, List.setIfInBounds_toArray, List.set_cons_zero, List.set_cons_succ]
    refine wpAnyH_take (i := 2) (v := (.pointer (some ⟨qb, 1, none⟩))) (by simp only [List.getElem?_toArray, List.getElem?_cons_zero, List.getElem?_cons_succ]; rfl) (by kernel_rfl) (by kernel_rfl) (by kernel_rfl) (by exact fun _ _ _ h => h) (y_fieldQ (by kernel_rfl) _ 1 rfl qb rfl (by decide)) hS ?_
    try simp only [Act.put, List.setIfInBounds_toArray, List.set_cons_zero, List.set_cons_succ]
    refine wpAnyH_take (i := 3) (v := (.int .i64 (st.cbits : Nat))) (by simp only [List.getElem?_toArray, List.getElem?_cons_zero, List.getElem?_cons_succ]; rfl) (by kernel_rfl) (by kernel_rfl) (by kernel_rfl) (by exact fun _ _ _ h => h) (y_loadI (by kernel_rfl) _ rfl qb 1 rfl _ (fun v hs => (HCE.out v hs).1)) hS ?_
    try simp only [Act.put, List.setIfInBounds_toArray, List.set_cons_zero, List.set_cons_succ]
    refine wpAnyH_take (i := 4) (v := (.pointer (some ⟨qb, 0, none⟩))) (by simp only [List.getElem?_toArray, List.getElem?_cons_zero, List.getElem?_cons_succ]; rfl) (by kernel_rfl) (by kernel_rfl) (by kernel_rfl) (by exact fun _ _ _ h => h) (y_move (by kernel_rfl) _ rfl _ rfl) hS ?_
    try simp only [Act.put, List.setIfInBounds_toArray, List.set_cons_zero, List.set_cons_succ]
    refine wpAnyH_take (i := 5) (v := (.pointer (some ⟨qb, 0, none⟩))) (by simp only [List.getElem?_toArray, List.getElem?_cons_zero, List.getElem?_cons_succ]; rfl) (by kernel_rfl) (by kernel_rfl) (by kernel_rfl) (by exact fun _ _ _ h => h) (y_nil (by kernel_rfl) _ rfl _ rfl) hS ?_
    try simp only [Act.put, List.setIfInBounds_toArray, List.set_cons_zero, List.set_cons_succ]
    refine wpAnyH_take (i := 6) (v := (.pointer (some ⟨qb, 2, none⟩))) (by simp only [List.getElem?_toArray, List.getElem?_cons_zero, List.getElem?_cons_succ]; rfl) (by kernel_rfl) (by kernel_rfl) (by kernel_rfl) (by exact fun _ _ _ h => h) (y_fieldQ (by kernel_rfl) _ 2 rfl qb rfl (by decide)) hS ?_
    try simp only [Act.put, List.setIfInBounds_toArray, List.set_cons_zero, List.set_cons_succ]
    refine wpAnyH_take (i := 7) (v := (.slice sa 32 sc)) (by simp only [List.getElem?_toArray, List.getElem?_cons_zero, List.getElem?_cons_succ]; rfl) (by kernel_rfl) (by kernel_rfl) (by kernel_rfl) (by exact fun _ _ _ h => h) (y_loadB (by kernel_rfl) _ rfl qb 2 rfl _ (fun v hs => (HCE.out v hs).2)) hS ?_
    try simp only [Act.put, List.setIfInBounds_toArray, List.set_cons_zero, List.set_cons_succ]
    refine wpAnyH_take (i := 8) (v := (.slice a t.length c)) (by simp only [List.getElem?_toArray, List.getElem?_cons_zero, List.getElem?_cons_succ]; rfl) (by kernel_rfl) (by kernel_rfl) (by kernel_rfl) (by exact fun _ _ _ h => h) (y_move (by kernel_rfl) _ rfl _ rfl) hS ?_
    try simp only [Act.put, List.setIfInBounds_toArray, List.set_cons_zero, List.set_cons_succ]
    refine wpAnyH_ready (rs := [9, 10]) (by kernel_rfl) (by simp) ?_
    refine AllReadyH.cons (by simp only [List.getElem?_toArray, List.getElem?_cons_zero, List.getElem?_cons_succ]; rfl) (fun K hK => ?_) (AllReadyH.cons (by simp only [List.getElem?_toArray, List.getElem?_cons_zero, List.getElem?_cons_succ]; rfl) (fun K hK => ?_) AllReadyH.nil)
    · skip
      refine r_call3 66 _ _ _ #[3, 26, 26] rfl (by kernel_rfl) (.int .i64 (st.cbits : Nat)) (.slice sa 32 sc) (.slice a t.length c) rfl rfl rfl (enters_of Tryz.func66 (by kernel_rfl) rfl) ((HCC.out _ hS).mono ?_)
      rintro _ w2 ⟨rfl, hb2⟩
      refine ⟨_, rfl, ?_⟩
      have b02 : Below w1.heap.size w1 w2 := hS.trans (hb2.mono hS.size)
      refine hK.out _ _ b02 (fun hS => ?_)
      clear hK K
      try simp only [Act.put, List.setIfInBounds_toArray, List.set_cons_zero, List.set_cons_succ]
      refine wpAnyH_ready (rs := [10]) (by kernel_rfl) (by simp) ?_
      refine AllReadyH.cons (by simp only [List.getElem?_toArray, List.getElem?_cons_zero, List.getElem?_cons_succ]; rfl) (fun K hK => ?_) AllReadyH.nil
      go_simp
      have b03 : Below w1.heap.size w1 (w2.alloc (.cells Z32 31)) := b02.alloc b02.size _
      refine hK.out _ _ b03 (fun hS => ?_)
      clear hK K
      try simp only [Act.put, List.setIfInBounds_toArray, List.set_cons_zero, List.set_cons_succ]
      refine wpAnyH_ready (rs := [11]) (by kernel_rfl) (by simp) ?_
      refine AllReadyH.cons (by simp only [List.getElem?_toArray, List.getElem?_cons_zero, List.getElem?_cons_succ]; rfl) (fun K hK => ?_) AllReadyH.nil
      refine r_storeH (by kernel_rfl) _ _ rfl w2.heap.size rfl (hA kk) rfl 31 Z32 (heap_alloc_new _ _) (hA_info hkk) (hA_Z32 hkk) (hA_one hkk) ?_
      have b04 : Below w1.heap.size w1 ((w2.alloc (.cells Z32 31)).setRow w2.heap.size (hA kk)) := below_setRow b03 b02.size _
      refine hK.out _ _ b04 (fun hS => ?_)
      clear hK K
      refine wpAnyH_done (by kernel_rfl) ?_ _
      go_wp2_with fail
      go_meet
      case rel => exact ⟨w2.heap.size, rfl, setRow_heap _ _ _ _ _ _ (heap_alloc_new _ _), b04, b02.size⟩
    · skip
      go_simp
      have b02 : Below w1.heap.size w1 (wd.alloc (.cells Z32 31)) := hS.alloc hS.size _
      have e2 : (wd.alloc (.cells Z32 31)).heap[wd.heap.size]? = some (.cells Z32 31 (0, 0)) := heap_alloc_new _ _
      have l2 : wd.heap.size < (wd.alloc (.cells Z32 31)).heap.size := by simp
      have HD2 : Hid (wd.heap.size < (wd.alloc (.cells Z32 31)).heap.size ∧ w1.heap.size ≤ wd.heap.size) := ⟨l2, hS.size⟩
      refine hK.out _ _ b02 (fun hS => ?_)
      clear hK K l2
      try simp only [Act.put, List.setIfInBounds_toArray, List.set_cons_zero, List.set_cons_succ]
      refine wpAnyH_ready (rs := [9]) (by kernel_rfl) (by simp) ?_
      refine AllReadyH.cons (by simp only [List.getElem?_toArray, List.getElem?_cons_zero, List.getElem?_cons_succ]; rfl) (fun K hK => ?_) AllReadyH.nil
      refine r_call3 66 _ _ _ #[3, 26, 26] rfl (by kernel_rfl) (.int .i64 (st.cbits : Nat)) (.slice sa 32 sc) (.slice a t.length c) rfl rfl rfl (enters_of Tryz.func66 (by kernel_rfl) rfl) ((HCC.out _ hS).mono ?_)
      rintro _ w2 ⟨rfl, hb2⟩
      refine ⟨_, rfl, ?_⟩
      have b03 : Below w1.heap.size w1 w2 := hS.trans (hb2.mono hS.size)
      have e3 : w2.heap[wd.heap.size]? = some (.cells Z32 31 (0, 0)) := (hb2.block _ HD2.out.1).trans e2
      refine hK.out _ _ b03 (fun hS => ?_)
      clear hK K
      try simp only [Act.put, List.setIfInBounds_toArray, List.set_cons_zero, List.set_cons_succ]
      refine wpAnyH_ready (rs := [11]) (by kernel_rfl) (by simp) ?_
      refine AllReadyH.cons (by simp only [List.getElem?_toArray, List.getElem?_cons_zero, List.getElem?_cons_succ]; rfl) (fun K hK => ?_) AllReadyH.nil
      refine r_storeH (by kernel_rfl) _ _ rfl wd.heap.size rfl (hA kk) rfl 31 Z32 e3 (hA_info hkk) (hA_Z32 hkk) (hA_one hkk) ?_
      have b04 : Below w1.heap.size w1 (w2.setRow wd.heap.size (hA kk)) := below_setRow b03 HD2.out.2 _
      refine hK.out _ _ b04 (fun hS => ?_)
      clear hK K
      refine wpAnyH_done (by kernel_rfl) ?_ _
      go_wp2_with fail
      go_meet
      case rel => exact ⟨wd.heap.size, rfl, setRow_heap _ _ _ _ _ _ e3, b04, HD2.out.2⟩
  case rest =>
    obtain ⟨g, rfl, bx, b13, hg1⟩ := hcut
    have H3 : Hid (Below w1.heap.size w1 wc ∧ w1.heap.size ≤ g) := ⟨b13, hg1⟩
    clear b13 hg1
    have HW3 : Hid (Below w.heap.size w wc) := HB.out.1.trans (H3.out.1.mono HB.out.1.size)
    have HK3 : Hid (RBk wc B qb st F sa sB sc ah ch ac cc af cf Qh Qc Qf) := HR.out.below HW3.out
    have bk : wc.heap[w.heap.size]? = some (.cells (hA k) 31 (0, 0)) := (H3.out.1.block _ HB.out.2.2).trans HB.out.2.1
    have hcl1 : ∀ j, j < (hA kk).size → wc.cell? ⟨g, j, none⟩ = (hA kk)[j]? := fun j _ => cell_of_row _ _ _ _ 31 _ bx
    have hcl2 : ∀ j, j < (hA k).size → wc.cell? ⟨w.heap.size, j, none⟩ = (hA k)[j]? := fun j _ => cell_of_row _ _ _ _ 31 _ bk
    have HBX : Hid (∀ v, Below wc.heap.size wc v → v.rangeAt g 0 (bv kk)) := fun v hv => range_box ((hv.block g (Array.getElem?_eq_some_iff.1 bx).1).trans bx)
    have HGX : Hid (wc.heap[g]? = some (.cells (hA kk) 31 (0, 0))) := bx
    have HQN : Hid (qb ≠ g) := fun z => by have := HR.out.row.lt; have := H3.out.2; have := HB.out.2.2; omega
    clear bx bk HCC HCE
    have eqk : ∀ w0 : World, (Op.equalIn 10000 31 (.agg (hA kk)) (.agg (hA k))).run Tryz.prog w0 = .ok false w0 := fun w0 => by rw [eqH_any w0 _ _ HKH.out hkH, decide_eq_false HNE.out]
    go_wp2_with (first
          | refine wpList_load_cells_g (by rfl) 31 (.tmp 7) (by rfl) g (by rfl) (hA kk) _ hcl1 Tryz.underlying31 (by rfl) hi3 ?_
          | refine wpList_load_cells_g (by rfl) 31 (.tmp 5) (by rfl) w.heap.size (by rfl) (hA k) _ hcl2 Tryz.underlying31 (by rfl) hi4 ?_)
    go_ret
    exact ⟨rfl, RTurned.of_below (F := F) ⟨sa, sB, sc, ah, ch, ac, cc, af, cf, Qh, Qc, Qf, HR.out⟩ HW3.out⟩
set_option maxRecDepth 100000 in
set_option maxHeartbeats 3200000 in
theorem rb_accept_own (w : World) (B qb : Nat) (st : Bst) (F : Nat → Prop) (h : RB w B qb st F) (hG : Gr w) (a : Option Addr) (b o c : Nat) (t : List Nat) (ht : Vw w a b o t) (hnil : a = none → c = 0) (hs : t.length ≤ 140737488351232) (k : List Nat) (hkH : IsH k) (he : kc st.cbits st.S t = k) (hin : t ∈ st.LC) (hL : st.LC.length ≤ 274877906944) :
    Calls Tryz.prog 41 #[.pointer (some ⟨qb, 0, none⟩), .slice a t.length c, .agg (hA k)] w fun e w' => e = .returned (.bool true) ∧ RTurned w w' B qb st F := by
  obtain ⟨sa, sB, sc, ah, ch, ac, cc, af, cf, Qh, Qc, Qf, hk⟩ := h
  have z64 := (zero_of_info infoH).1
  have b1' : Below w.heap.size w (w.alloc (.cells (hA k) 31)) := (Below.refl _ _).alloc (Nat.le_refl _) _
  obtain ⟨w1, hw1⟩ : ∃ w1, w1 = w.alloc (.cells (hA k) 31) := ⟨_, rfl⟩
  have hrs : w1.heap[w.heap.size]? = some (.cells (hA k) 31 (0, 0)) := by rw [hw1]; exact heap_alloc_new _ _
  have lrs : w.heap.size < w1.heap.size := by rw [hw1]; simp
  rw [← hw1] at b1'
  have HCE : Hid (∀ v, Below w1.heap.size w1 v → v.cell? ⟨qb, 1, none⟩ = some (.int .i64 (st.cbits : Nat)) ∧ v.cell? ⟨qb, 2, none⟩ = some (.slice sa 32 sc)) := fun v hv => ⟨((hk.below b1').below hv).row.cell (i := 1) (by decide), ((hk.below b1').below hv).row.cell (i := 2) (by decide)⟩
  have HCC : Hid (∀ v, Below w1.heap.size w1 v → Calls Tryz.prog 66 #[.int .i64 (st.cbits : Nat), .slice sa 32 sc, .slice a t.length c] v fun e w' => e = .returned (.agg (hA (kc st.cbits st.S t))) ∧ Below v.heap.size v w') := fun v hv => rcodeN_any v st.cbits hk.b2.2 sa sB 0 sc st.S ((hk.below b1').below hv).sec hk.S8 (fun e => by have := hk.sec.at_ (by decide); rw [e] at this; cases this) a b o c t ((ht.below b1').below hv) hnil (by omega) ((hG.below b1').below hv)
  have HB : Hid (Below w.heap.size w w1 ∧ w1.heap[w.heap.size]? = some (.cells (hA k) 31 (0, 0)) ∧ w.heap.size < w1.heap.size) := ⟨b1', hrs, lrs⟩
  have HR : Hid (RBk w B qb st F sa sB sc ah ch ac cc af cf Qh Qc Qf) := hk
  have HT : Hid (Vw w a b o t ∧ (a = none → c = 0) ∧ t.length ≤ 140737488351232) := ⟨ht, hnil, hs⟩
  have hkk := kc_isH st.cbits st.S t
  obtain ⟨kk, ekk⟩ : ∃ kk, kk = kc st.cbits st.S t := ⟨_, rfl⟩
  have HKE : Hid (kk = kc st.cbits st.S t) := ekk
  have HNE : Hid (kk = k) := by rw [ekk]; exact he
  have HIN : Hid (t ∈ st.LC) := hin
  have HLC : Hid (st.LC.length ≤ 274877906944) := hL
  clear he hin hL
  rw [← ekk] at HCC hkk
  have HKH : Hid (IsH kk) := hkk
  have hi3 := hA_info hkk
  have hi4 := hA_info hkH
  clear ekk hk hG ht hnil hs b1' hrs lrs
  go_enter Tryz.func41, Tryz.ntmps41
  go_upto_region 1 with fail
  rw [← hw1]
  clear hw1
  go_cut [7] from 10 to 20 (fun s wc => ∃ g, s = .pointer (some ⟨g, 0, none⟩) ∧ wc.heap[g]? = some (.cells (hA kk) 31 (0, 0)) ∧ Below w1.heap.size w1 wc ∧ w1.heap.size ≤ g)
  case first =>
    have bd : Below w1.heap.size w1 w1.drew := (Turn.drew (F := fun _ => False) w1).below (fun _ f => f.elim) (Nat.le_refl _)
    have HBD : Hid (Below w1.heap.size w1 w1.drew) := bd
    refine wp_region_held_drew (S := fun v => Below w1.heap.size w1 v) (by kernel_rfl) bd ?_
    intro hS
    clear bd
    change wpAnyH _ _ _ _ _ 12 _ _ _
    generalize w1.drew = wd at hS HBD ⊢
    refine wpAnyH_take (i := 0) (v := (.pointer (some ⟨qb, 0, none⟩))) (by simp only [List.getElem?_toArray, List.getElem?_cons_zero]; rfl) (by kernel_rfl) (by kernel_rfl) (by kernel_rfl) (by exact fun _ _ _ h => h) (y_move (by kernel_rfl) _ rfl _ rfl) hS ?_
    try simp only [Act.put, List.setIfInBounds_toArray, List.set_cons_zero, List.set_cons_succ]
    refine wpAnyH_take (i := 1) (v := (.pointer (some ⟨qb, 0, none⟩))) (by simp only [List.getElem?_toArray, List.getElem?_cons_zero, List.getElem?_cons_succ]; rfl) (by kernel_rfl) (by kernel_rfl) (by kernel_rfl) (by exact fun _ _ _ h => h) (y_nil (by kernel_rfl) _ rfl _ rfl) hS ?_
    try simp only [Act.put, List.setIfInBounds_toArray, List.set_cons_zero, List.set_cons_succ]
    refine wpAnyH_take (i := 2) (v := (.pointer (some ⟨qb, 1, none⟩))) (by simp only [List.getElem?_toArray, List.getElem?_cons_zero, List.getElem?_cons_succ]; rfl) (by kernel_rfl) (by kernel_rfl) (by kernel_rfl) (by exact fun _ _ _ h => h) (y_fieldQ (by kernel_rfl) _ 1 rfl qb rfl (by decide)) hS ?_
    try simp only [Act.put, List.setIfInBounds_toArray, List.set_cons_zero, List.set_cons_succ]
    refine wpAnyH_take (i := 3) (v := (.int .i64 (st.cbits : Nat))) (by simp only [List.getElem?_toArray, List.getElem?_cons_zero, List.getElem?_cons_succ]; rfl) (by kernel_rfl) (by kernel_rfl) (by kernel_rfl) (by exact fun _ _ _ h => h) (y_loadI (by kernel_rfl) _ rfl qb 1 rfl _ (fun v hs => (HCE.out v hs).1)) hS ?_
    try simp only [Act.put, List.setIfInBounds_toArray, List.set_cons_zero, List.set_cons_succ]
    refine wpAnyH_take (i := 4) (v := (.pointer (some ⟨qb, 0, none⟩))) (by simp only [List.getElem?_toArray, List.getElem?_cons_zero, List.getElem?_cons_succ]; rfl) (by kernel_rfl) (by kernel_rfl) (by kernel_rfl) (by exact fun _ _ _ h => h) (y_move (by kernel_rfl) _ rfl _ rfl) hS ?_
    try simp only [Act.put, List.setIfInBounds_toArray, List.set_cons_zero, List.set_cons_succ]
    refine wpAnyH_take (i := 5) (v := (.pointer (some ⟨qb, 0, none⟩))) (by simp only [List.getElem?_toArray, List.getElem?_cons_zero, List.getElem?_cons_succ]; rfl) (by kernel_rfl) (by kernel_rfl) (by kernel_rfl) (by exact fun _ _ _ h => h) (y_nil (by kernel_rfl) _ rfl _ rfl) hS ?_
    try simp only [Act.put, List.setIfInBounds_toArray, List.set_cons_zero, List.set_cons_succ]
    refine wpAnyH_take (i := 6) (v := (.pointer (some ⟨qb, 2, none⟩))) (by simp only [List.getElem?_toArray, List.getElem?_cons_zero, List.getElem?_cons_succ]; rfl) (by kernel_rfl) (by kernel_rfl) (by kernel_rfl) (by exact fun _ _ _ h => h) (y_fieldQ (by kernel_rfl) _ 2 rfl qb rfl (by decide)) hS ?_
    try simp only [Act.put, List.setIfInBounds_toArray, List.set_cons_zero, List.set_cons_succ]
    refine wpAnyH_take (i := 7) (v := (.slice sa 32 sc)) (by simp only [List.getElem?_toArray, List.getElem?_cons_zero, List.getElem?_cons_succ]; rfl) (by kernel_rfl) (by kernel_rfl) (by kernel_rfl) (by exact fun _ _ _ h => h) (y_loadB (by kernel_rfl) _ rfl qb 2 rfl _ (fun v hs => (HCE.out v hs).2)) hS ?_
    try simp only [Act.put, List.setIfInBounds_toArray, List.set_cons_zero, List.set_cons_succ]
    refine wpAnyH_take (i := 8) (v := (.slice a t.length c)) (by simp only [List.getElem?_toArray, List.getElem?_cons_zero, List.getElem?_cons_succ]; rfl) (by kernel_rfl) (by kernel_rfl) (by kernel_rfl) (by exact fun _ _ _ h => h) (y_move (by kernel_rfl) _ rfl _ rfl) hS ?_
    try simp only [Act.put, List.setIfInBounds_toArray, List.set_cons_zero, List.set_cons_succ]
    refine wpAnyH_ready (rs := [9, 10]) (by kernel_rfl) (by simp) ?_
    refine AllReadyH.cons (by simp only [List.getElem?_toArray, List.getElem?_cons_zero, List.getElem?_cons_succ]; rfl) (fun K hK => ?_) (AllReadyH.cons (by simp only [List.getElem?_toArray, List.getElem?_cons_zero, List.getElem?_cons_succ]; rfl) (fun K hK => ?_) AllReadyH.nil)
    · skip
      refine r_call3 66 _ _ _ #[3, 26, 26] rfl (by kernel_rfl) (.int .i64 (st.cbits : Nat)) (.slice sa 32 sc) (.slice a t.length c) rfl rfl rfl (enters_of Tryz.func66 (by kernel_rfl) rfl) ((HCC.out _ hS).mono ?_)
      rintro _ w2 ⟨rfl, hb2⟩
      refine ⟨_, rfl, ?_⟩
      have b02 : Below w1.heap.size w1 w2 := hS.trans (hb2.mono hS.size)
      refine hK.out _ _ b02 (fun hS => ?_)
      clear hK K
      try simp only [Act.put, List.setIfInBounds_toArray, List.set_cons_zero, List.set_cons_succ]
      refine wpAnyH_ready (rs := [10]) (by kernel_rfl) (by simp) ?_
      refine AllReadyH.cons (by simp only [List.getElem?_toArray, List.getElem?_cons_zero, List.getElem?_cons_succ]; rfl) (fun K hK => ?_) AllReadyH.nil
      go_simp
      have b03 : Below w1.heap.size w1 (w2.alloc (.cells Z32 31)) := b02.alloc b02.size _
      refine hK.out _ _ b03 (fun hS => ?_)
      clear hK K
      try simp only [Act.put, List.setIfInBounds_toArray, List.set_cons_zero, List.set_cons_succ]
      refine wpAnyH_ready (rs := [11]) (by kernel_rfl) (by simp) ?_
      refine AllReadyH.cons (by simp only [List.getElem?_toArray, List.getElem?_cons_zero, List.getElem?_cons_succ]; rfl) (fun K hK => ?_) AllReadyH.nil
      refine r_storeH (by kernel_rfl) _ _ rfl w2.heap.size rfl (hA kk) rfl 31 Z32 (heap_alloc_new _ _) (hA_info hkk) (hA_Z32 hkk) (hA_one hkk) ?_
      have b04 : Below w1.heap.size w1 ((w2.alloc (.cells Z32 31)).setRow w2.heap.size (hA kk)) := below_setRow b03 b02.size _
      refine hK.out _ _ b04 (fun hS => ?_)
      clear hK K
      refine wpAnyH_done (by kernel_rfl) ?_ _
      go_wp2_with fail
      go_meet
      case rel => exact ⟨w2.heap.size, rfl, setRow_heap _ _ _ _ _ _ (heap_alloc_new _ _), b04, b02.size⟩
    · skip
      go_simp
      have b02 : Below w1.heap.size w1 (wd.alloc (.cells Z32 31)) := hS.alloc hS.size _
      have e2 : (wd.alloc (.cells Z32 31)).heap[wd.heap.size]? = some (.cells Z32 31 (0, 0)) := heap_alloc_new _ _
      have l2 : wd.heap.size < (wd.alloc (.cells Z32 31)).heap.size := by simp
      have HD2 : Hid (wd.heap.size < (wd.alloc (.cells Z32 31)).heap.size ∧ w1.heap.size ≤ wd.heap.size) := ⟨l2, hS.size⟩
      refine hK.out _ _ b02 (fun hS => ?_)
      clear hK K l2
      try simp only [Act.put, List.setIfInBounds_toArray, List.set_cons_zero, List.set_cons_succ]
      refine wpAnyH_ready (rs := [9]) (by kernel_rfl) (by simp) ?_
      refine AllReadyH.cons (by simp only [List.getElem?_toArray, List.getElem?_cons_zero, List.getElem?_cons_succ]; rfl) (fun K hK => ?_) AllReadyH.nil
      refine r_call3 66 _ _ _ #[3, 26, 26] rfl (by kernel_rfl) (.int .i64 (st.cbits : Nat)) (.slice sa 32 sc) (.slice a t.length c) rfl rfl rfl (enters_of Tryz.func66 (by kernel_rfl) rfl) ((HCC.out _ hS).mono ?_)
      rintro _ w2 ⟨rfl, hb2⟩
      refine ⟨_, rfl, ?_⟩
      have b03 : Below w1.heap.size w1 w2 := hS.trans (hb2.mono hS.size)
      have e3 : w2.heap[wd.heap.size]? = some (.cells Z32 31 (0, 0)) := (hb2.block _ HD2.out.1).trans e2
      refine hK.out _ _ b03 (fun hS => ?_)
      clear hK K
      try simp only [Act.put, List.setIfInBounds_toArray, List.set_cons_zero, List.set_cons_succ]
      refine wpAnyH_ready (rs := [11]) (by kernel_rfl) (by simp) ?_
      refine AllReadyH.cons (by simp only [List.getElem?_toArray, List.getElem?_cons_zero, List.getElem?_cons_succ]; rfl) (fun K hK => ?_) AllReadyH.nil
      refine r_storeH (by kernel_rfl) _ _ rfl wd.heap.size rfl (hA kk) rfl 31 Z32 e3 (hA_info hkk) (hA_Z32 hkk) (hA_one hkk) ?_
      have b04 : Below w1.heap.size w1 (w2.setRow wd.heap.size (hA kk)) := below_setRow b03 HD2.out.2 _
      refine hK.out _ _ b04 (fun hS => ?_)
      clear hK K
      refine wpAnyH_done (by kernel_rfl) ?_ _
      go_wp2_with fail
      go_meet
      case rel => exact ⟨wd.heap.size, rfl, setRow_heap _ _ _ _ _ _ e3, b04, HD2.out.2⟩
  case rest =>
    obtain ⟨g, rfl, bx, b13, hg1⟩ := hcut
    have H3 : Hid (Below w1.heap.size w1 wc ∧ w1.heap.size ≤ g) := ⟨b13, hg1⟩
    clear b13 hg1
    have HW3 : Hid (Below w.heap.size w wc) := HB.out.1.trans (H3.out.1.mono HB.out.1.size)
    have HK3 : Hid (RBk wc B qb st F sa sB sc ah ch ac cc af cf Qh Qc Qf) := HR.out.below HW3.out
    have bk : wc.heap[w.heap.size]? = some (.cells (hA k) 31 (0, 0)) := (H3.out.1.block _ HB.out.2.2).trans HB.out.2.1
    have hcl1 : ∀ j, j < (hA kk).size → wc.cell? ⟨g, j, none⟩ = (hA kk)[j]? := fun j _ => cell_of_row _ _ _ _ 31 _ bx
    have hcl2 : ∀ j, j < (hA k).size → wc.cell? ⟨w.heap.size, j, none⟩ = (hA k)[j]? := fun j _ => cell_of_row _ _ _ _ 31 _ bk
    have HBX : Hid (∀ v, Below wc.heap.size wc v → v.rangeAt g 0 (bv kk)) := fun v hv => range_box ((hv.block g (Array.getElem?_eq_some_iff.1 bx).1).trans bx)
    have HGX : Hid (wc.heap[g]? = some (.cells (hA kk) 31 (0, 0))) := bx
    have HQN : Hid (qb ≠ g) := fun z => by have := HR.out.row.lt; have := H3.out.2; have := HB.out.2.2; omega
    clear bx bk HCC HCE
    have eqk : ∀ w0 : World, (Op.equalIn 10000 31 (.agg (hA kk)) (.agg (hA k))).run Tryz.prog w0 = .ok true w0 := fun w0 => by rw [eqH_any w0 _ _ HKH.out hkH, decide_eq_true HNE.out]
    have ce4 : wc.cell? ⟨qb, 4, none⟩ = some (.slice ac Qc.length cc) := HK3.out.row.cell (i := 4) (by decide)
    have pl := rplace_any wc F (.slice ac Qc.length cc) Qc HK3.out.nc (by rw [HK3.out.ec]; exact HK3.out.rc) (by have e := congrArg List.length HK3.out.ec; rw [List.length_map] at e; rw [e]; have := HLC.out; omega) a b o c t (HT.out.1.below HW3.out)
    rw [HK3.out.ec, decide_eq_true HIN.out] at pl
    obtain ⟨pp, epp⟩ : ∃ pp, pp = pos t st.LC := ⟨_, rfl⟩
    rw [← epp] at pl
    clear epp
    go_wp2_with (first
          | refine wpList_load_cells_g (by rfl) 31 (.tmp 7) (by rfl) g (by rfl) (hA kk) _ hcl1 Tryz.underlying31 (by rfl) hi3 ?_
          | refine wpList_load_cells_g (by rfl) 31 (.tmp 5) (by rfl) w.heap.size (by rfl) (hA k) _ hcl2 Tryz.underlying31 (by rfl) hi4 ?_)
    refine pl.mono ?_
    rintro _ w8 ⟨rfl, q8, hw8⟩
    clear pl ce4 hcl1 hcl2 eqk
    have HW8 : Hid (Below w.heap.size w w8) := by rw [hw8]; exact HW3.out.trans ((below_drewN (Below.refl _ _) q8).mono HW3.out.size)
    clear hw8
    go_wp2_with fail
    go_ret
    exact ⟨rfl, RTurned.of_below (F := F) ⟨sa, sB, sc, ah, ch, ac, cc, af, cf, Qh, Qc, Qf, HR.out⟩ HW8.out⟩
set_option maxRecDepth 100000 in
set_option maxHeartbeats 3200000 in
theorem rb_accept_forge (w : World) (B qb : Nat) (st : Bst) (F : Nat → Prop) (h : RB w B qb st F) (hG : Gr w) (a : Option Addr) (b o c : Nat) (t : List Nat) (ht : Vw w a b o t) (hnil : a = none → c = 0) (hs : t.length ≤ 140737488351232) (k : List Nat) (hkH : IsH k) (he : kc st.cbits st.S t = k) (hin : t ∉ st.LC) (hL : st.LC.length ≤ 274877906944) (hLF : st.LF.length ≤ 274877906944) :
    Calls Tryz.prog 41 #[.pointer (some ⟨qb, 0, none⟩), .slice a t.length c, .agg (hA k)] w fun e w' => e = .returned (.bool true) ∧ RTurned w w' B qb { st with LF := ins t st.LF } F := by
  obtain ⟨sa, sB, sc, ah, ch, ac, cc, af, cf, Qh, Qc, Qf, hk⟩ := h
  have z64 := (zero_of_info infoH).1
  have b1' : Below w.heap.size w (w.alloc (.cells (hA k) 31)) := (Below.refl _ _).alloc (Nat.le_refl _) _
  obtain ⟨w1, hw1⟩ : ∃ w1, w1 = w.alloc (.cells (hA k) 31) := ⟨_, rfl⟩
  have hrs : w1.heap[w.heap.size]? = some (.cells (hA k) 31 (0, 0)) := by rw [hw1]; exact heap_alloc_new _ _
  have lrs : w.heap.size < w1.heap.size := by rw [hw1]; simp
  rw [← hw1] at b1'
  have HCE : Hid (∀ v, Below w1.heap.size w1 v → v.cell? ⟨qb, 1, none⟩ = some (.int .i64 (st.cbits : Nat)) ∧ v.cell? ⟨qb, 2, none⟩ = some (.slice sa 32 sc)) := fun v hv => ⟨((hk.below b1').below hv).row.cell (i := 1) (by decide), ((hk.below b1').below hv).row.cell (i := 2) (by decide)⟩
  have HCC : Hid (∀ v, Below w1.heap.size w1 v → Calls Tryz.prog 66 #[.int .i64 (st.cbits : Nat), .slice sa 32 sc, .slice a t.length c] v fun e w' => e = .returned (.agg (hA (kc st.cbits st.S t))) ∧ Below v.heap.size v w') := fun v hv => rcodeN_any v st.cbits hk.b2.2 sa sB 0 sc st.S ((hk.below b1').below hv).sec hk.S8 (fun e => by have := hk.sec.at_ (by decide); rw [e] at this; cases this) a b o c t ((ht.below b1').below hv) hnil (by omega) ((hG.below b1').below hv)
  have HB : Hid (Below w.heap.size w w1 ∧ w1.heap[w.heap.size]? = some (.cells (hA k) 31 (0, 0)) ∧ w.heap.size < w1.heap.size) := ⟨b1', hrs, lrs⟩
  have HR : Hid (RBk w B qb st F sa sB sc ah ch ac cc af cf Qh Qc Qf) := hk
  have HT : Hid (Vw w a b o t ∧ (a = none → c = 0) ∧ t.length ≤ 140737488351232) := ⟨ht, hnil, hs⟩
  have hkk := kc_isH st.cbits st.S t
  obtain ⟨kk, ekk⟩ : ∃ kk, kk = kc st.cbits st.S t := ⟨_, rfl⟩
  have HKE : Hid (kk = kc st.cbits st.S t) := ekk
  have HNE : Hid (kk = k) := by rw [ekk]; exact he
  have HIN : Hid (t ∉ st.LC) := hin
  have HLC : Hid (st.LC.length ≤ 274877906944) := hL
  have HL : Hid (st.LF.length ≤ 274877906944) := hLF
  clear he hin hL hLF
  rw [← ekk] at HCC hkk
  have HKH : Hid (IsH kk) := hkk
  have hi3 := hA_info hkk
  have hi4 := hA_info hkH
  clear ekk hk hG ht hnil hs b1' hrs lrs
  go_enter Tryz.func41, Tryz.ntmps41
  go_upto_region 1 with fail
  rw [← hw1]
  clear hw1
  go_cut [7] from 10 to 20 (fun s wc => ∃ g, s = .pointer (some ⟨g, 0, none⟩) ∧ wc.heap[g]? = some (.cells (hA kk) 31 (0, 0)) ∧ Below w1.heap.size w1 wc ∧ w1.heap.size ≤ g)
  case first =>
    have bd : Below w1.heap.size w1 w1.drew := (Turn.drew (F := fun _ => False) w1).below (fun _ f => f.elim) (Nat.le_refl _)
    have HBD : Hid (Below w1.heap.size w1 w1.drew) := bd
    refine wp_region_held_drew (S := fun v => Below w1.heap.size w1 v) (by kernel_rfl) bd ?_
    intro hS
    clear bd
    change wpAnyH _ _ _ _ _ 12 _ _ _
    generalize w1.drew = wd at hS HBD ⊢
    refine wpAnyH_take (i := 0) (v := (.pointer (some ⟨qb, 0, none⟩))) (by simp only [List.getElem?_toArray, List.getElem?_cons_zero]; rfl) (by kernel_rfl) (by kernel_rfl) (by kernel_rfl) (by exact fun _ _ _ h => h) (y_move (by kernel_rfl) _ rfl _ rfl) hS ?_
    try simp only [Act.put, List.setIfInBounds_toArray, List.set_cons_zero, List.set_cons_succ]
    refine wpAnyH_take (i := 1) (v := (.pointer (some ⟨qb, 0, none⟩))) (by simp only [List.getElem?_toArray, List.getElem?_cons_zero, List.getElem?_cons_succ]; rfl) (by kernel_rfl) (by kernel_rfl) (by kernel_rfl) (by exact fun _ _ _ h => h) (y_nil (by kernel_rfl) _ rfl _ rfl) hS ?_
    try simp only [Act.put, List.setIfInBounds_toArray, List.set_cons_zero, List.set_cons_succ]
    refine wpAnyH_take (i := 2) (v := (.pointer (some ⟨qb, 1, none⟩))) (by simp only [List.getElem?_toArray, List.getElem?_cons_zero, List.getElem?_cons_succ]; rfl) (by kernel_rfl) (by kernel_rfl) (by kernel_rfl) (by exact fun _ _ _ h => h) (y_fieldQ (by kernel_rfl) _ 1 rfl qb rfl (by decide)) hS ?_
    try simp only [Act.put, List.setIfInBounds_toArray, List.set_cons_zero, List.set_cons_succ]
    refine wpAnyH_take (i := 3) (v := (.int .i64 (st.cbits : Nat))) (by simp only [List.getElem?_toArray, List.getElem?_cons_zero, List.getElem?_cons_succ]; rfl) (by kernel_rfl) (by kernel_rfl) (by kernel_rfl) (by exact fun _ _ _ h => h) (y_loadI (by kernel_rfl) _ rfl qb 1 rfl _ (fun v hs => (HCE.out v hs).1)) hS ?_
    try simp only [Act.put, List.setIfInBounds_toArray, List.set_cons_zero, List.set_cons_succ]
    refine wpAnyH_take (i := 4) (v := (.pointer (some ⟨qb, 0, none⟩))) (by simp only [List.getElem?_toArray, List.getElem?_cons_zero, List.getElem?_cons_succ]; rfl) (by kernel_rfl) (by kernel_rfl) (by kernel_rfl) (by exact fun _ _ _ h => h) (y_move (by kernel_rfl) _ rfl _ rfl) hS ?_
    try simp only [Act.put, List.setIfInBounds_toArray, List.set_cons_zero, List.set_cons_succ]
    refine wpAnyH_take (i := 5) (v := (.pointer (some ⟨qb, 0, none⟩))) (by simp only [List.getElem?_toArray, List.getElem?_cons_zero, List.getElem?_cons_succ]; rfl) (by kernel_rfl) (by kernel_rfl) (by kernel_rfl) (by exact fun _ _ _ h => h) (y_nil (by kernel_rfl) _ rfl _ rfl) hS ?_
    try simp only [Act.put, List.setIfInBounds_toArray, List.set_cons_zero, List.set_cons_succ]
    refine wpAnyH_take (i := 6) (v := (.pointer (some ⟨qb, 2, none⟩))) (by simp only [List.getElem?_toArray, List.getElem?_cons_zero, List.getElem?_cons_succ]; rfl) (by kernel_rfl) (by kernel_rfl) (by kernel_rfl) (by exact fun _ _ _ h => h) (y_fieldQ (by kernel_rfl) _ 2 rfl qb rfl (by decide)) hS ?_
    try simp only [Act.put, List.setIfInBounds_toArray, List.set_cons_zero, List.set_cons_succ]
    refine wpAnyH_take (i := 7) (v := (.slice sa 32 sc)) (by simp only [List.getElem?_toArray, List.getElem?_cons_zero, List.getElem?_cons_succ]; rfl) (by kernel_rfl) (by kernel_rfl) (by kernel_rfl) (by exact fun _ _ _ h => h) (y_loadB (by kernel_rfl) _ rfl qb 2 rfl _ (fun v hs => (HCE.out v hs).2)) hS ?_
    try simp only [Act.put, List.setIfInBounds_toArray, List.set_cons_zero, List.set_cons_succ]
    refine wpAnyH_take (i := 8) (v := (.slice a t.length c)) (by simp only [List.getElem?_toArray, List.getElem?_cons_zero, List.getElem?_cons_succ]; rfl) (by kernel_rfl) (by kernel_rfl) (by kernel_rfl) (by exact fun _ _ _ h => h) (y_move (by kernel_rfl) _ rfl _ rfl) hS ?_
    try simp only [Act.put, List.setIfInBounds_toArray, List.set_cons_zero, List.set_cons_succ]
    refine wpAnyH_ready (rs := [9, 10]) (by kernel_rfl) (by simp) ?_
    refine AllReadyH.cons (by simp only [List.getElem?_toArray, List.getElem?_cons_zero, List.getElem?_cons_succ]; rfl) (fun K hK => ?_) (AllReadyH.cons (by simp only [List.getElem?_toArray, List.getElem?_cons_zero, List.getElem?_cons_succ]; rfl) (fun K hK => ?_) AllReadyH.nil)
    · skip
      refine r_call3 66 _ _ _ #[3, 26, 26] rfl (by kernel_rfl) (.int .i64 (st.cbits : Nat)) (.slice sa 32 sc) (.slice a t.length c) rfl rfl rfl (enters_of Tryz.func66 (by kernel_rfl) rfl) ((HCC.out _ hS).mono ?_)
      rintro _ w2 ⟨rfl, hb2⟩
      refine ⟨_, rfl, ?_⟩
      have b02 : Below w1.heap.size w1 w2 := hS.trans (hb2.mono hS.size)
      refine hK.out _ _ b02 (fun hS => ?_)
      clear hK K
      try simp only [Act.put, List.setIfInBounds_toArray, List.set_cons_zero, List.set_cons_succ]
      refine wpAnyH_ready (rs := [10]) (by kernel_rfl) (by simp) ?_
      refine AllReadyH.cons (by simp only [List.getElem?_toArray, List.getElem?_cons_zero, List.getElem?_cons_succ]; rfl) (fun K hK => ?_) AllReadyH.nil
      go_simp
      have b03 : Below w1.heap.size w1 (w2.alloc (.cells Z32 31)) := b02.alloc b02.size _
      refine hK.out _ _ b03 (fun hS => ?_)
      clear hK K
      try simp only [Act.put, List.setIfInBounds_toArray, List.set_cons_zero, List.set_cons_succ]
      refine wpAnyH_ready (rs := [11]) (by kernel_rfl) (by simp) ?_
      refine AllReadyH.cons (by simp only [List.getElem?_toArray, List.getElem?_cons_zero, List.getElem?_cons_succ]; rfl) (fun K hK => ?_) AllReadyH.nil
      refine r_storeH (by kernel_rfl) _ _ rfl w2.heap.size rfl (hA kk) rfl 31 Z32 (heap_alloc_new _ _) (hA_info hkk) (hA_Z32 hkk) (hA_one hkk) ?_
      have b04 : Below w1.heap.size w1 ((w2.alloc (.cells Z32 31)).setRow w2.heap.size (hA kk)) := below_setRow b03 b02.size _
      refine hK.out _ _ b04 (fun hS => ?_)
      clear hK K
      refine wpAnyH_done (by kernel_rfl) ?_ _
      go_wp2_with fail
      go_meet
      case rel => exact ⟨w2.heap.size, rfl, setRow_heap _ _ _ _ _ _ (heap_alloc_new _ _), b04, b02.size⟩
    · skip
      go_simp
      have b02 : Below w1.heap.size w1 (wd.alloc (.cells Z32 31)) := hS.alloc hS.size _
      have e2 : (wd.alloc (.cells Z32 31)).heap[wd.heap.size]? = some (.cells Z32 31 (0, 0)) := heap_alloc_new _ _
      have l2 : wd.heap.size < (wd.alloc (.cells Z32 31)).heap.size := by simp
      have HD2 : Hid (wd.heap.size < (wd.alloc (.cells Z32 31)).heap.size ∧ w1.heap.size ≤ wd.heap.size) := ⟨l2, hS.size⟩
      refine hK.out _ _ b02 (fun hS => ?_)
      clear hK K l2
      try simp only [Act.put, List.setIfInBounds_toArray, List.set_cons_zero, List.set_cons_succ]
      refine wpAnyH_ready (rs := [9]) (by kernel_rfl) (by simp) ?_
      refine AllReadyH.cons (by simp only [List.getElem?_toArray, List.getElem?_cons_zero, List.getElem?_cons_succ]; rfl) (fun K hK => ?_) AllReadyH.nil
      refine r_call3 66 _ _ _ #[3, 26, 26] rfl (by kernel_rfl) (.int .i64 (st.cbits : Nat)) (.slice sa 32 sc) (.slice a t.length c) rfl rfl rfl (enters_of Tryz.func66 (by kernel_rfl) rfl) ((HCC.out _ hS).mono ?_)
      rintro _ w2 ⟨rfl, hb2⟩
      refine ⟨_, rfl, ?_⟩
      have b03 : Below w1.heap.size w1 w2 := hS.trans (hb2.mono hS.size)
      have e3 : w2.heap[wd.heap.size]? = some (.cells Z32 31 (0, 0)) := (hb2.block _ HD2.out.1).trans e2
      refine hK.out _ _ b03 (fun hS => ?_)
      clear hK K
      try simp only [Act.put, List.setIfInBounds_toArray, List.set_cons_zero, List.set_cons_succ]
      refine wpAnyH_ready (rs := [11]) (by kernel_rfl) (by simp) ?_
      refine AllReadyH.cons (by simp only [List.getElem?_toArray, List.getElem?_cons_zero, List.getElem?_cons_succ]; rfl) (fun K hK => ?_) AllReadyH.nil
      refine r_storeH (by kernel_rfl) _ _ rfl wd.heap.size rfl (hA kk) rfl 31 Z32 e3 (hA_info hkk) (hA_Z32 hkk) (hA_one hkk) ?_
      have b04 : Below w1.heap.size w1 (w2.setRow wd.heap.size (hA kk)) := below_setRow b03 HD2.out.2 _
      refine hK.out _ _ b04 (fun hS => ?_)
      clear hK K
      refine wpAnyH_done (by kernel_rfl) ?_ _
      go_wp2_with fail
      go_meet
      case rel => exact ⟨wd.heap.size, rfl, setRow_heap _ _ _ _ _ _ e3, b04, HD2.out.2⟩
  case rest =>
    obtain ⟨g, rfl, bx, b13, hg1⟩ := hcut
    have H3 : Hid (Below w1.heap.size w1 wc ∧ w1.heap.size ≤ g) := ⟨b13, hg1⟩
    clear b13 hg1
    have HW3 : Hid (Below w.heap.size w wc) := HB.out.1.trans (H3.out.1.mono HB.out.1.size)
    have HK3 : Hid (RBk wc B qb st F sa sB sc ah ch ac cc af cf Qh Qc Qf) := HR.out.below HW3.out
    have bk : wc.heap[w.heap.size]? = some (.cells (hA k) 31 (0, 0)) := (H3.out.1.block _ HB.out.2.2).trans HB.out.2.1
    have hcl1 : ∀ j, j < (hA kk).size → wc.cell? ⟨g, j, none⟩ = (hA kk)[j]? := fun j _ => cell_of_row _ _ _ _ 31 _ bx
    have hcl2 : ∀ j, j < (hA k).size → wc.cell? ⟨w.heap.size, j, none⟩ = (hA k)[j]? := fun j _ => cell_of_row _ _ _ _ 31 _ bk
    have HBX : Hid (∀ v, Below wc.heap.size wc v → v.rangeAt g 0 (bv kk)) := fun v hv => range_box ((hv.block g (Array.getElem?_eq_some_iff.1 bx).1).trans bx)
    have HGX : Hid (wc.heap[g]? = some (.cells (hA kk) 31 (0, 0))) := bx
    have HQN : Hid (qb ≠ g) := fun z => by have := HR.out.row.lt; have := H3.out.2; have := HB.out.2.2; omega
    clear bx bk HCC HCE
    have eqk : ∀ w0 : World, (Op.equalIn 10000 31 (.agg (hA kk)) (.agg (hA k))).run Tryz.prog w0 = .ok true w0 := fun w0 => by rw [eqH_any w0 _ _ HKH.out hkH, decide_eq_true HNE.out]
    have ce4 : wc.cell? ⟨qb, 4, none⟩ = some (.slice ac Qc.length cc) := HK3.out.row.cell (i := 4) (by decide)
    have pl := rplace_any wc F (.slice ac Qc.length cc) Qc HK3.out.nc (by rw [HK3.out.ec]; exact HK3.out.rc) (by have e := congrArg List.length HK3.out.ec; rw [List.length_map] at e; rw [e]; have := HLC.out; omega) a b o c t (HT.out.1.below HW3.out)
    rw [HK3.out.ec, decide_eq_false HIN.out] at pl
    obtain ⟨pp, epp⟩ : ∃ pp, pp = pos t st.LC := ⟨_, rfl⟩
    rw [← epp] at pl
    clear epp
    go_wp2_with (first
          | refine wpList_load_cells_g (by rfl) 31 (.tmp 7) (by rfl) g (by rfl) (hA kk) _ hcl1 Tryz.underlying31 (by rfl) hi3 ?_
          | refine wpList_load_cells_g (by rfl) 31 (.tmp 5) (by rfl) w.heap.size (by rfl) (hA k) _ hcl2 Tryz.underlying31 (by rfl) hi4 ?_)
    refine pl.mono ?_
    rintro _ w8 ⟨rfl, q8, hw8⟩
    clear pl ce4 hcl1 hcl2 eqk
    have B8 : Below wc.heap.size wc w8 := by rw [hw8]; exact below_drewN (Below.refl _ _) q8
    have HW8 : Hid (Below w.heap.size w w8) := HW3.out.trans (B8.mono HW3.out.size)
    have HBX8 : Hid (∀ v, Below w8.heap.size w8 v → v.rangeAt g 0 (bv kk)) := fun v hv => HBX.out v (B8.trans (hv.mono B8.size))
    have HK8 : Hid (RBk w8 B qb st F sa sB sc ah ch ac cc af cf Qh Qc Qf) := HR.out.below HW8.out
    clear HBX HK3 HW3 hw8 B8
    go_wp2_with fail
    have bd : Below w8.heap.size w8 w8.drew := (Turn.drew (F := fun _ => False) w8).below (fun _ f => f.elim) (Nat.le_refl _)
    have hk3 := HK8.out.below bd
    have s0 : w8.drew.rangeAt g 0 (bv kk) := HBX8.out _ bd
    have ce : w8.drew.cell? ⟨qb, 5, none⟩ = some (.slice af Qf.length cf) := hk3.row.cell (i := 5) (by decide)
    have nt := rnote_any w8.drew F af cf Qf hk3.nf (by rw [hk3.ef]; exact hk3.rf) (by have e := congrArg List.length hk3.ef; rw [List.length_map] at e; rw [e]; exact HL.out) (fun i q => (hk3.lim i q).2) a b o c t ((HT.out.1.below HW8.out).below bd) HT.out.2.1 HT.out.2.2 kk HKH.out
    have HBD : Hid (Below w8.heap.size w8 w8.drew ∧ RBk w8.drew B qb st F sa sB sc ah ch ac cc af cf Qh Qc Qf) := ⟨bd, hk3⟩
    refine wp_region_held_drew (S := fun v => v.rangeAt g 0 (bv kk)) (by kernel_rfl) s0 ?_
    intro hS
    clear s0 bd hk3
    change wpAnyH _ _ _ _ _ 11 _ _ _
    generalize w8.drew = wd at hS ce nt HBD ⊢
    refine wpAnyH_take (i := 0) (v := (.pointer (some ⟨qb, 0, none⟩))) (by simp only [List.getElem?_toArray, List.getElem?_cons_zero]; rfl) (by kernel_rfl) (by kernel_rfl) (by kernel_rfl) (by exact fun _ _ _ h => h) (y_move (by kernel_rfl) _ rfl _ rfl) hS ?_
    try simp only [Act.put, List.setIfInBounds_toArray, List.set_cons_zero, List.set_cons_succ]
    refine wpAnyH_take (i := 1) (v := (.pointer (some ⟨qb, 0, none⟩))) (by simp only [List.getElem?_toArray, List.getElem?_cons_zero, List.getElem?_cons_succ]; rfl) (by kernel_rfl) (by kernel_rfl) (by kernel_rfl) (by exact fun _ _ _ h => h) (y_move (by kernel_rfl) _ rfl _ rfl) hS ?_
    try simp only [Act.put, List.setIfInBounds_toArray, List.set_cons_zero, List.set_cons_succ]
    refine wpAnyH_take (i := 2) (v := (.pointer (some ⟨qb, 0, none⟩))) (by simp only [List.getElem?_toArray, List.getElem?_cons_zero, List.getElem?_cons_succ]; rfl) (by kernel_rfl) (by kernel_rfl) (by kernel_rfl) (by exact fun _ _ _ h => h) (y_nil (by kernel_rfl) _ rfl _ rfl) hS ?_
    try simp only [Act.put, List.setIfInBounds_toArray, List.set_cons_zero, List.set_cons_succ]
    refine wpAnyH_take (i := 3) (v := (.pointer (some ⟨qb, 5, none⟩))) (by simp only [List.getElem?_toArray, List.getElem?_cons_zero, List.getElem?_cons_succ]; rfl) (by kernel_rfl) (by kernel_rfl) (by kernel_rfl) (by exact fun _ _ _ h => h) (y_fieldQ (by kernel_rfl) _ 5 rfl qb rfl (by decide)) hS ?_
    try simp only [Act.put, List.setIfInBounds_toArray, List.set_cons_zero, List.set_cons_succ]
    refine wpAnyH_take (i := 5) (v := (.slice a t.length c)) (by simp only [List.getElem?_toArray, List.getElem?_cons_zero, List.getElem?_cons_succ]; rfl) (by kernel_rfl) (by kernel_rfl) (by kernel_rfl) (by exact fun _ _ _ h => h) (y_move (by kernel_rfl) _ rfl _ rfl) hS ?_
    try simp only [Act.put, List.setIfInBounds_toArray, List.set_cons_zero, List.set_cons_succ]
    refine wpAnyH_take (i := 6) (v := (.agg (hA kk))) (by simp only [List.getElem?_toArray, List.getElem?_cons_zero, List.getElem?_cons_succ]; rfl) (by kernel_rfl) (by kernel_rfl) (by kernel_rfl) (by exact fun _ _ _ h => h) (yieldsIf_load_mid (by kernel_rfl) _ _ rfl g 0 rfl _ _ (fun v hs => hs) Tryz.underlying31 rfl (hL_len HKH.out)) hS ?_
    try simp only [Act.put, List.setIfInBounds_toArray, List.set_cons_zero, List.set_cons_succ]
    refine wpAnyH_ready (rs := [4]) (by kernel_rfl) (by simp) ?_
    refine AllReadyH.cons (by simp only [List.getElem?_toArray, List.getElem?_cons_zero, List.getElem?_cons_succ]; rfl) (fun K hK => ?_) AllReadyH.nil
    refine r_loadN (by kernel_rfl) _ rfl qb 5 rfl _ ce ?_
    refine hK.out _ _ hS (fun hS => ?_)
    clear hK K
    try simp only [Act.put, List.setIfInBounds_toArray, List.set_cons_zero, List.set_cons_succ]
    refine wpAnyH_ready (rs := [7]) (by kernel_rfl) (by simp) ?_
    refine AllReadyH.cons (by simp only [List.getElem?_toArray, List.getElem?_cons_zero, List.getElem?_cons_succ]; rfl) (fun K hK => ?_) AllReadyH.nil
    refine r_call3 65 _ _ _ #[77, 26, 31] rfl (by kernel_rfl) (.slice af Qf.length cf) (.slice a t.length c) (.agg (hA kk)) rfl rfl rfl (enters_of Tryz.func65 (by kernel_rfl) rfl) (nt.mono ?_)
    rintro _ w5 ⟨av', cv', Q', rfl, nl5, em5, ek5, b5⟩
    refine ⟨_, rfl, ?_⟩
    have H5 : Hid (NL w5 (fun i => F i ∨ (wd.heap.size ≤ i ∧ i < w5.heap.size)) (.slice av' Q'.length cv') Q' ∧ Q'.map FG.s = ins t st.LF ∧ (∀ q ∈ Q', q ∈ Qf ∨ (q.s = t ∧ q.k = kk)) ∧ Below wd.heap.size wd w5 ∧ RBk w5 B qb st F sa sB sc ah ch ac cc af cf Qh Qc Qf) := ⟨nl5, by rw [HBD.out.2.ef] at em5; exact em5, ek5, b5, HBD.out.2.below b5⟩
    have hS5 : w5.rangeAt g 0 (bv kk) := HBX8.out _ (HBD.out.1.trans (b5.mono HBD.out.1.size))
    have ce5 : w5.cell? ⟨qb, 5, none⟩ = some (.slice af Qf.length cf) := H5.out.2.2.2.2.row.cell (i := 5) (by decide)
    have fz5 : w5.frozen? ⟨qb, 5, none⟩ = false := H5.out.2.2.2.2.row.frozen 5
    refine hK.out _ _ hS5 (fun hS => ?_)
    clear hK K nl5 em5 ek5 b5 nt ce hS5
    try simp only [Act.put, List.setIfInBounds_toArray, List.set_cons_zero, List.set_cons_succ]
    refine wpAnyH_take (i := 8) (v := (.pointer (some ⟨qb, 0, none⟩))) (by simp only [List.getElem?_toArray, List.getElem?_cons_zero, List.getElem?_cons_succ]; rfl) (by kernel_rfl) (by kernel_rfl) (by kernel_rfl) (by exact fun _ _ _ h => h) (y_nil (by kernel_rfl) _ rfl _ rfl) hS ?_
    try simp only [Act.put, List.setIfInBounds_toArray, List.set_cons_zero, List.set_cons_succ]
    refine wpAnyH_take (i := 9) (v := (.pointer (some ⟨qb, 5, none⟩))) (by simp only [List.getElem?_toArray, List.getElem?_cons_zero, List.getElem?_cons_succ]; rfl) (by kernel_rfl) (by kernel_rfl) (by kernel_rfl) (by exact fun _ _ _ h => h) (y_fieldQ (by kernel_rfl) _ 5 rfl qb rfl (by decide)) hS ?_
    try simp only [Act.put, List.setIfInBounds_toArray, List.set_cons_zero, List.set_cons_succ]
    refine wpAnyH_ready (rs := [10]) (by kernel_rfl) (by simp) ?_
    refine AllReadyH.cons (by simp only [List.getElem?_toArray, List.getElem?_cons_zero, List.getElem?_cons_succ]; rfl) (fun K hK => ?_) AllReadyH.nil
    refine r_storeN (by kernel_rfl) _ _ rfl qb 5 rfl av' Q'.length cv' rfl _ ce5 fz5 ?_
    have hS6 : (w5.setCell ⟨qb, 5, none⟩ (.slice av' Q'.length cv')).rangeAt g 0 (bv kk) := fun j u hu => (cell_set_other _ (by intro z; exact HQN.out z.symm)).trans (hS j u hu)
    refine hK.out _ _ hS6 (fun hS => ?_)
    clear hK K hS6 ce5 fz5
    try simp only [Act.put]
    refine wpAnyH_done (by kernel_rfl) ?_ _
    have hne : w.heap.size ≠ qb := fun z => by have := HR.out.row.lt; omega
    have HFF : Hid (RTurned w (w5.setCell ⟨qb, 5, none⟩ (.slice av' Q'.length cv')) B qb { st with LF := ins t st.LF } F) := by
      have b35 : Below w8.heap.size w8 w5 := HBD.out.1.trans (H5.out.2.2.2.1.mono HBD.out.1.size)
      have b05 : Below w.heap.size w w5 := HW8.out.trans (b35.mono HW8.out.size)
      have wd0 : w.heap.size ≤ wd.heap.size := Nat.le_trans HW8.out.size HBD.out.1.size
      have ql := HR.out.row.lt
      have rb := H5.out.2.2.2.2.noteF (F' := fun i => F i ∨ (wd.heap.size ≤ i ∧ i < w5.heap.size)) (fun i q => Or.inl q) (fun i q => by
        rcases q with q | q
        · exact H5.out.2.2.2.2.lim i q
        · have := HR.out.base; exact ⟨by omega, q.2⟩) (fun q => by
        rcases q with q | q
        · exact HR.out.out q
        · omega) H5.out.1 H5.out.2.1 (fun q hq => by
        rcases H5.out.2.2.1 q hq with z | z
        · exact Or.inl z
        · exact Or.inr ⟨z.1, z.2.trans HKE.out⟩)
      refine ⟨⟨_, fun i q => Or.inl q, fun i q => ?_, rb⟩, (Turn.of_below b05 (F := fun i => i = qb)).trans (Turn.setCell w5 ⟨qb, 5, none⟩ _ (F := fun i => i = qb) rfl) (fun _ q => Or.inl q)⟩
      rcases q with q | q
      · exact Or.inl q
      · exact Or.inr ⟨by omega, by simpa using q.2⟩
    clear hS HBD HGX HBX8
    revert HFF
    generalize w5.setCell ⟨qb, 5, none⟩ (.slice av' Q'.length cv') = w6
    intro HFF
    go_wp2_with fail
    go_ret
    exact ⟨rfl, HFF.out⟩
end Go.Proofs.YtlhllbggnpcoaaaGreatDoor
