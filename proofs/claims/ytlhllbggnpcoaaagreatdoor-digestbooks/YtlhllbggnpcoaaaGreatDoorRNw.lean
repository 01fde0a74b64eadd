import Derived.Test.YtlhllbggnpcoaaaGreatDoorFac
import Derived.Test.YtlhllbggnpcoaaaGreatDoorAdd
import Derived.Test.YtlhllbggnpcoaaaGreatDoorMacE
/-
  cairnref04.note: the walk.
-/
namespace Go.Proofs.YtlhllbggnpcoaaaGreatDoor
open Go.RowKit Go.Sort Go.Maps

theorem nrow_apart {w : World} {base size n : Nat} {v : Value} {xs : List Value} (h : w.ownsRow base 105 size v n xs) {g : Nat} {cur : Array Value} (hc : w.heap[g]? = some (.cells cur 5 (0, 0))) : v.ownBlock ≠ some g := own_ne_cells h hc (by decide)
/-- a string that was made: as it lies behind an append to rows -/
theorem bytes_kept {w w' : World} {B base n m : Nat} {u v : Value} {xs ys : List Value} (h : w.ownsRow B 5 1 u m ys) (ho : w.ownsRow base 105 33 v n xs) (t : Turn (fun i => v.ownBlock = some i) w w') : w'.ownsRow B 5 1 u m ys :=
  own_turn h t (fun g hg q => by
    obtain ⟨cur, hc⟩ := own_block h hg
    exact nrow_apart ho hc q)

set_option maxRecDepth 100000 in
set_option maxHeartbeats 3200000 in
theorem rnote_any (w : World) (F : Nat → Prop) (av : Option Addr) (cv : Nat) (Q : List FG) (h : NL w F (.slice av Q.length cv) Q) (hr : Ris (Q.map FG.s)) (hn : Q.length ≤ 274877906944) (hF : ∀ i, F i → i < w.heap.size) (a : Option Addr) (b o c : Nat) (t : List Nat) (ht : Vw w a b o t) (hnil : a = none → c = 0) (hs : t.length ≤ 140737488351232) (k : List Nat) (hk : IsH k) :
    Calls Tryz.prog 65 #[.slice av Q.length cv, .slice a t.length c, .agg (hA k)] w fun e w' => ∃ av' cv' Q', e = .returned (.slice av' Q'.length cv') ∧ NL w' (fun i => F i ∨ (w.heap.size ≤ i ∧ i < w'.heap.size)) (.slice av' Q'.length cv') Q' ∧ Q'.map FG.s = ins t (Q.map FG.s) ∧ (∀ q ∈ Q', q ∈ Q ∨ (q.s = t ∧ q.k = k)) ∧ Below w.heap.size w w' := by
  have z64 := (zero_of_info infoH).1
  have b0 : Below w.heap.size w (w.alloc (.cells (hA k) 31)) := (Below.refl _ _).alloc (Nat.le_refl _) _
  have e0 : (w.alloc (.cells (hA k) 31)).heap[w.heap.size]? = some (.cells (hA k) 31 (0, 0)) := heap_alloc_new _ _
  have l0 : w.heap.size < (w.alloc (.cells (hA k) 31)).heap.size := by simp
  obtain ⟨W0, hW0⟩ : ∃ W0, W0 = w.alloc (.cells (hA k) 31) := ⟨_, rfl⟩
  obtain ⟨gw, hgw⟩ : ∃ gw, gw = w.heap.size := ⟨_, rfl⟩
  rw [← hW0, ← hgw] at e0 l0
  rw [← hW0] at b0
  have HG : Hid (Below w.heap.size w W0 ∧ W0.heap[gw]? = some (.cells (hA k) 31 (0, 0)) ∧ gw < W0.heap.size ∧ gw = w.heap.size) := ⟨b0, e0, l0, hgw⟩
  have pl := rplace_any W0 F (.slice av Q.length cv) Q (h.below b0) hr (by omega) a b o c t (ht.below b0)
  have HN : Hid (NL w F (.slice av Q.length cv) Q ∧ Ris (Q.map FG.s) ∧ ∀ i, F i → i < w.heap.size) := ⟨h, hr, hF⟩
  have HT : Hid (Vw w a b o t ∧ (a = none → c = 0) ∧ t.length ≤ 140737488351232) := ⟨ht, hnil, hs⟩
  have HKK : Hid (IsH k) := hk
  have bsk := hA_size hk
  obtain ⟨p, ep⟩ : ∃ p, p = pos t (Q.map FG.s) := ⟨_, rfl⟩
  have hpn : p ≤ Q.length := by rw [ep]; have := pos_le t (Q.map FG.s); rw [List.length_map] at this; exact this
  have HP : Hid (p = pos t (Q.map FG.s) ∧ p ≤ Q.length) := ⟨ep, hpn⟩
  rw [← ep] at pl
  clear h hr hF ht hnil hs hk b0 e0 l0 ep
  by_cases hin : t ∈ Q.map FG.s
  · rw [decide_eq_true hin] at pl
    have HE : Hid (ins t (Q.map FG.s) = Q.map FG.s) := ins_mem HN.out.2.1 hin
    clear hin
    go_enter Tryz.func65, Tryz.ntmps65
    go_wp2_with fail
    rw [← hW0, ← hgw]
    clear hW0 hgw bsk
    refine pl.mono ?_
    rintro _ w1 ⟨rfl, q1, hw1⟩
    have H1 : Hid (Below w.heap.size w w1) := by rw [hw1]; exact HG.out.1.trans ((below_drewN (Below.refl _ _) q1).mono HG.out.1.size)
    clear hw1 pl
    go_wp2_with fail
    go_ret
    exact ⟨av, cv, Q, rfl, (HN.out.1.below H1.out).mono (fun i q => Or.inl q), HE.out.symm, fun q hq => Or.inl hq, H1.out⟩
  · rw [decide_eq_false hin] at pl
    have HE : Hid (ins t (Q.map FG.s) = (Q.map FG.s).take p ++ t :: (Q.map FG.s).drop p) := by show _ = _; rw [HP.out.1]; exact ins_at HN.out.2.1 hin
    clear hin
    have hcv : p ≤ cv := by
      rcases HN.out.1.own.2 with ⟨e, h0⟩ | ⟨g, cap, cur, e, _, _, hn2, _⟩
      · omega
      · injection e with _ _ e; omega
    have sl1 : ∀ w, (Instr.slice 77 (.slice av Q.length cv) none (some (.int .i64 p)) none).run Tryz.prog w = .ok (.slice av p cv) w := fun w => slice_uptoN av Q.length cv p hcv w
    have sl2 : ∀ w, (Instr.sliceAt 77 (.slice av Q.length cv) none (some (.int .i64 p)) none).run Tryz.prog w = .ok (.slice av p cv) w := fun w => sliceAt_uptoN av Q.length cv p hcv w
    have sl3 : ∀ w, (Instr.slice 77 (.slice av Q.length cv) (some (.int .i64 p)) none none).run Tryz.prog w = .ok (.slice (behindN av cv p) (Q.length - p) (cv - p)) w := fun w => slice_fromN av Q.length cv p hpn w
    have sl4 : ∀ w, (Instr.sliceAt 77 (.slice av Q.length cv) (some (.int .i64 p)) none none).run Tryz.prog w = .ok (.slice (behindN av cv p) (Q.length - p) (cv - p)) w := fun w => sliceAt_fromN av Q.length cv p hpn w
    go_enter Tryz.func65, Tryz.ntmps65
    go_wp2_with fail
    rw [← hW0, ← hgw]
    clear hW0 hgw bsk
    refine pl.mono ?_
    rintro _ w1 ⟨rfl, q1, hw1⟩
    have H1 : Hid (Below w.heap.size w w1 ∧ Below W0.heap.size W0 w1) := ⟨by rw [hw1]; exact HG.out.1.trans ((below_drewN (Below.refl _ _) q1).mono HG.out.1.size), by rw [hw1]; exact below_drewN (Below.refl _ _) q1⟩
    clear hw1 pl
    have A1 := (HN.out.1.below H1.out.1).ahead p HP.out.2
    have HA1 : Hid (w1.ownsRow w.heap.size 105 33 (.slice none 0 0) 0 []) := World.ownsRow_nil _ _ _ _
    have H1b : Hid (∀ u ∈ (Q.take p).flatMap FG.enc, u.oneCell' = true) := fun u hu => flatF_one HN.out.1 u (by rw [flatF_split p]; exact List.mem_append_left _ hu)
    go_wp2_with (at_builtin; refine wpList_append_rows (by rfl) _ _ (by rfl) w.heap.size (.slice none 0 0) 0 [] (by rfl) HA1.out av p cv ((Q.take p).flatMap FG.enc) (by rfl) A1.1 A1.2.1 A1.2.2 H1b.out (by omega) H1.out.1.size ?_; intro o1 w2 own1 gr1 nn1)
    have t12 : Turn (fun _ => False) w1 w2 := Turn.of_grown gr1 (fun k e => by simp [Value.ownBlock] at e)
    have b12 : Below w1.heap.size w1 w2 := t12.below (fun _ q => q.elim) (Nat.le_refl _)
    have own1' : w2.ownsRow w.heap.size 105 33 o1 p ((Q.take p).flatMap FG.enc) := by simpa using own1
    have H2 : Hid (Below w.heap.size w w2 ∧ Below W0.heap.size W0 w2 ∧ w2.ownsRow w.heap.size 105 33 o1 p ((Q.take p).flatMap FG.enc)) := ⟨H1.out.1.trans (b12.mono H1.out.1.size), H1.out.2.trans (b12.mono H1.out.2.size), own1'⟩
    clear t12 b12 own1 own1' gr1 nn1 A1 HA1 H1b H1
    go_wp2_with fail
    have bd : Below w2.heap.size w2 w2.drew := (Turn.drew (F := fun _ => False) w2).below (fun _ f => f.elim) (Nat.le_refl _)
    have hS0 : Turn (fun i => o1.ownBlock = some i) w2 w2.drew := Turn.drew w2
    have HB0 : Hid (∀ v, Turn (fun i => o1.ownBlock = some i) w2 v → v.rangeAt gw 0 (bv k)) := fun v tv => by
      have hh : w2.heap[gw]? = some (.cells (hA k) 31 (0, 0)) := (H2.out.2.1.block gw HG.out.2.2.1).trans HG.out.2.1
      have lt : gw < w2.heap.size := (Array.getElem?_eq_some_iff.1 hh).1
      exact range_box ((tv.block gw lt (own_ne_cells H2.out.2.2 hh (by decide))).trans hh)
    have own0 := World.ownsRow_lit (base := w2.drew.heap.size) (e := 5) (size := 1) w2.drew #[] 0 (Nat.le_refl _) (by decide) rfl
    have b2a : Below w2.heap.size w2 (w2.drew.alloc (.cells #[] 5)) := bd.alloc (Nat.le_refl _) _
    have HO : Hid ((w2.drew.alloc (.cells #[] 5)).ownsRow w2.drew.heap.size 5 1 (.slice (some ⟨w2.drew.heap.size, 0, none⟩) 0 0) 0 [] ∧ Below w2.heap.size w2 (w2.drew.alloc (.cells #[] 5)) ∧ w2.drew.heap.size = w2.heap.size) := ⟨own0, b2a, rfl⟩
    refine wp_region_held_drew (S := fun v => Turn (fun i => o1.ownBlock = some i) w2 v) (by kernel_rfl) hS0 ?_
    intro hS
    clear hS0 bd own0 b2a
    change wpAnyH _ _ _ _ _ 9 _ _ _
    refine wpAnyH_take (i := 0) (v := o1) (by simp only [List.getElem?_toArray, List.getElem?_cons_zero]; rfl) (by kernel_rfl) (by kernel_rfl) (by kernel_rfl) (by exact fun _ _ _ h => h) (y_move (by kernel_rfl) _ rfl _ rfl) hS ?_
    try simp only [Act.put, List.setIfInBounds_toArray, List.set_cons_zero, List.set_cons_succ]
    refine wpAnyH_take (i := 2) (v := (.slice a t.length c)) (by simp only [List.getElem?_toArray, List.getElem?_cons_zero, List.getElem?_cons_succ]; rfl) (by kernel_rfl) (by kernel_rfl) (by kernel_rfl) (by exact fun _ _ _ h => h) (y_move (by kernel_rfl) _ rfl _ rfl) hS ?_
    try simp only [Act.put, List.setIfInBounds_toArray, List.set_cons_zero, List.set_cons_succ]
    refine wpAnyH_take (i := 4) (v := (.agg (hA k))) (by simp only [List.getElem?_toArray, List.getElem?_cons_zero, List.getElem?_cons_succ]; rfl) (by kernel_rfl) (by kernel_rfl) (by kernel_rfl) (by exact fun _ _ _ h => h) (yieldsIf_load_mid (by kernel_rfl) _ _ rfl gw 0 rfl _ _ (fun v hs => HB0.out v hs) Tryz.underlying31 rfl (hL_len HKK.out)) hS ?_
    try simp only [Act.put, List.setIfInBounds_toArray, List.set_cons_zero, List.set_cons_succ]
    refine wpAnyH_ready (rs := [1]) (by kernel_rfl) (by simp) ?_
    refine AllReadyH.cons (by simp only [List.getElem?_toArray, List.getElem?_cons_zero, List.getElem?_cons_succ]; rfl) (fun K hK => ?_) AllReadyH.nil
    go_simp
    refine hK.out _ _ (Turn.of_below HO.out.2.1) (fun hS => ?_)
    clear hK K
    refine wpAnyH_ready (rs := [3]) (by kernel_rfl) (by simp) ?_
    refine AllReadyH.cons (by simp only [List.getElem?_toArray, List.getElem?_cons_zero, List.getElem?_cons_succ]; rfl) (fun K hK => ?_) AllReadyH.nil
    refine step_append_bytes (by rfl) _ _ rfl w2.drew.heap.size _ 0 [] rfl HO.out.1 a b o t.length c (fun i => ((gd t i : Nat) : Int)) rfl ((HT.out.1.below H2.out.1).below HO.out.2.1) HT.out.2.1 (by have := HT.out.2.2; omega) (by simp) ?_
    intro u5 w5 own5 gr5 nn5
    have b25 : Below w2.heap.size w2 w5 := HO.out.2.1.trans (grown_below gr5 HO.out.1 (by rw [HO.out.2.2]; exact Nat.le_refl _) HO.out.2.1.size)
    have own5' : w5.ownsRow w2.heap.size 5 1 u5 t.length (bv t) := by
      rw [HO.out.2.2] at own5
      rw [← vals_bv t]
      simpa using own5
    obtain ⟨a5, c5, rfl⟩ := own_slice own5'
    have H5 : Hid (w5.ownsRow w2.heap.size 5 1 (.slice a5 t.length c5) t.length (bv t) ∧ Below w2.heap.size w2 w5) := ⟨own5', b25⟩
    refine hK.out _ _ (Turn.of_below b25) (fun hS => ?_)
    clear hK K own5 own5' gr5 nn5 b25 HO
    try simp only [Act.put, List.setIfInBounds_toArray, List.set_cons_zero, List.set_cons_succ]
    refine wpAnyH_take (i := 5) (v := (.agg (.slice a5 t.length c5 :: bv k).toArray)) (by simp only [List.getElem?_toArray, List.getElem?_cons_zero, List.getElem?_cons_succ]; rfl) (by kernel_rfl) (by kernel_rfl) (by kernel_rfl) (by exact fun _ _ _ h => h) (yieldsIf_build (by kernel_rfl) _ _ rfl _ (by simp only [List.map_toArray, List.map_cons, List.map_nil]; exact builtN' a5 t.length c5 HKK.out)) hS ?_
    try simp only [Act.put, List.setIfInBounds_toArray, List.set_cons_zero, List.set_cons_succ]
    refine wpAnyH_ready (rs := [6]) (by kernel_rfl) (by simp) ?_
    refine AllReadyH.cons (by simp only [List.getElem?_toArray, List.getElem?_cons_zero, List.getElem?_cons_succ]; rfl) (fun K hK => ?_) AllReadyH.nil
    refine r_buildN _ rfl (by kernel_rfl) a5 t.length c5 HKK.out rfl ?_
    have be : Below w5.heap.size w5 (w5.alloc (.cells (.slice a5 t.length c5 :: bv k).toArray 105)) := (Below.refl _ _).alloc (Nat.le_refl _) _
    have HE6 : Hid ((w5.alloc (.cells (.slice a5 t.length c5 :: bv k).toArray 105)).ownsRow w.heap.size 105 33 o1 p ((Q.take p).flatMap FG.enc) ∧ (w5.alloc (.cells (.slice a5 t.length c5 :: bv k).toArray 105)).heap[w5.heap.size]? = some (.cells (.slice a5 t.length c5 :: bv k).toArray 105 (0, 0)) ∧ (w5.alloc (.cells (.slice a5 t.length c5 :: bv k).toArray 105)).ownsRow w2.heap.size 5 1 (.slice a5 t.length c5) t.length (bv t) ∧ w.heap.size ≤ w5.heap.size ∧ Below w2.heap.size w2 (w5.alloc (.cells (.slice a5 t.length c5 :: bv k).toArray 105))) := ⟨own_below (own_below H2.out.2.2 H5.out.2) be, heap_alloc_new _ _, own_below H5.out.1 be, Nat.le_trans H2.out.1.size H5.out.2.size, H5.out.2.trans (be.mono H5.out.2.size)⟩
    refine hK.out _ _ (Turn.of_below HE6.out.2.2.2.2) (fun hS => ?_)
    clear hK K be H5
    try simp only [Act.put, List.setIfInBounds_toArray, List.set_cons_zero, List.set_cons_succ]
    refine wpAnyH_ready (rs := [7]) (by kernel_rfl) (by simp) ?_
    refine AllReadyH.cons (by simp only [List.getElem?_toArray, List.getElem?_cons_zero, List.getElem?_cons_succ]; rfl) (fun K hK => ?_) AllReadyH.nil
    obtain ⟨i0, hi0, hz0, hz1, hz2⟩ := info_parts infoNt
    refine step_append_lies _ (by rfl) _ _ 77 rfl w.heap.size 105 i0 _ 33 56 Tryz.underlying77 hi0 hz0 hz1 hz2 (by rfl) (by decide) o1 p ((Q.take p).flatMap FG.enc) rfl HE6.out.1 ⟨w5.heap.size, 0, none⟩ 1 1 (.slice a5 t.length c5 :: bv k) rfl (by rw [List.length_cons, bv_len, HKK.out.1]) (World.news_of_block (cs := (.slice a5 t.length c5 :: bv k).toArray) (t := 105) (fr := (0, 0)) HE6.out.2.1) (fun u hu => ?_) (by decide) (by unfold maxLen; omega) (by omega) (by have := HE6.out.2.2.2.1; simp; omega) _ rfl ?_
    · rcases List.mem_cons.1 hu with rfl | hu
      · rfl
      · obtain ⟨z, _, rfl⟩ := List.mem_map.1 hu; rfl
    intro g2 cap2 w6 own6 gr6 at6 lt6
    have T6 : Turn (fun i => o1.ownBlock = some i) (w5.alloc (.cells (.slice a5 t.length c5 :: bv k).toArray 105)) w6 := Turn.of_grown gr6 (fun k e => e)
    have T26 : Turn (fun i => o1.ownBlock = some i) w2 w6 := (Turn.of_below HE6.out.2.2.2.2 (F := fun i => o1.ownBlock = some i)).trans T6 (fun _ q => Or.inl q)
    have B26 : Below w.heap.size w2 w6 := T26.below (fun i q => (H2.out.2.2.lt i q).1) H2.out.1.size
    have H6 : Hid (w6.ownsRow w.heap.size 105 33 (.slice (some ⟨g2, 0, none⟩) (p + 1) cap2) (p + 1) ((Q.take p).flatMap FG.enc ++ (.slice a5 t.length c5 :: bv k)) ∧ w6.ownsRow w2.heap.size 5 1 (.slice a5 t.length c5) t.length (bv t) ∧ Below w.heap.size w w6 ∧ w.heap.size ≤ w2.heap.size) := ⟨own6, bytes_kept HE6.out.2.2.1 HE6.out.1 T6, H2.out.1.trans B26, H2.out.1.size⟩
    refine hK.out _ _ T26 (fun hS => ?_)
    clear hK K own6 gr6 at6 lt6 T6 T26 B26 hi0 hz0 hz1 hz2 HE6 H2
    try simp only [Act.put, List.setIfInBounds_toArray, List.set_cons_zero, List.set_cons_succ]
    refine wpAnyH_take (i := 8) (v := (.slice (some ⟨g2, 0, none⟩) (p + 1) cap2)) (by simp only [List.getElem?_toArray, List.getElem?_cons_zero, List.getElem?_cons_succ]; rfl) (by kernel_rfl) (by kernel_rfl) (by kernel_rfl) (by exact fun _ _ _ h => h) (y_assign (by kernel_rfl) _ rfl _ rfl) hS ?_
    try simp only [Act.put, List.setIfInBounds_toArray, List.set_cons_zero, List.set_cons_succ]
    refine wpAnyH_done (by kernel_rfl) ?_ _
    try simp only [Act.put, List.setIfInBounds_toArray, List.set_cons_zero, List.set_cons_succ]
    clear hS HB0
    have A3 := (HN.out.1.below H6.out.2.2.1).behind p HP.out.2
    have H3b : Hid (∀ u ∈ (Q.drop p).flatMap FG.enc, u.oneCell' = true) := fun u hu => flatF_one HN.out.1 u (by rw [flatF_split p]; exact List.mem_append_right _ hu)
    go_wp2_with (at_builtin; refine wpList_append_rows (by rfl) _ _ (by rfl) w.heap.size (.slice (some ⟨g2, 0, none⟩) (p + 1) cap2) (p + 1) ((Q.take p).flatMap FG.enc ++ (.slice a5 t.length c5 :: bv k)) (by rfl) H6.out.1 (behindN av cv p) (Q.length - p) (cv - p) ((Q.drop p).flatMap FG.enc) (by rfl) A3.1 A3.2.1 A3.2.2 H3b.out (by omega) H6.out.2.2.1.size ?_; intro o3 w7 own7 gr7 nn7)
    have T7 : Turn (fun i => (Value.slice (some ⟨g2, 0, none⟩) (p + 1) cap2).ownBlock = some i) w6 w7 := Turn.of_grown gr7 (fun k e => e)
    have B7 : Below w.heap.size w6 w7 := T7.below (fun i q => (H6.out.1.lt i q).1) H6.out.2.2.1.size
    have by7 := bytes_kept H6.out.2.1 H6.out.1 T7
    have bw7 := H6.out.2.2.1.trans B7
    obtain ⟨av', cv', rfl⟩ : ∃ av' cv', o3 = .slice av' (p + 1 + (Q.length - p)) cv' := by
      rcases own7.2 with ⟨_, h0⟩ | ⟨g, cap, cur, rfl, _⟩
      · omega
      · exact ⟨_, _, rfl⟩
    have el : (Q.take p ++ (⟨.slice a5 t.length c5, t, k⟩ : FG) :: Q.drop p).length = p + 1 + (Q.length - p) := by simp; omega
    have HF : Hid (NL w7 (fun i => F i ∨ (w.heap.size ≤ i ∧ i < w7.heap.size)) (.slice av' (Q.take p ++ (⟨.slice a5 t.length c5, t, k⟩ : FG) :: Q.drop p).length cv') (Q.take p ++ (⟨.slice a5 t.length c5, t, k⟩ : FG) :: Q.drop p)) := by
      have old : ∀ q ∈ Q, Str w7 (fun i => F i ∨ (w.heap.size ≤ i ∧ i < w7.heap.size)) q.u q.s := fun q hq => ((HN.out.1.below bw7).mono (fun i z => Or.inl z)).str q hq
      refine ⟨?_, fun g hg => ?_, fun q hq => ?_, fun q hq => ?_⟩
      · rw [el]
        have e : (Q.take p ++ (⟨.slice a5 t.length c5, t, k⟩ : FG) :: Q.drop p).flatMap FG.enc = (Q.take p).flatMap FG.enc ++ (.slice a5 t.length c5 :: bv k) ++ (Q.drop p).flatMap FG.enc := by simp [FG.enc]
        rw [e]
        exact own_base own7
      · rw [el] at hg
        exact Or.inr (own7.lt g hg)
      · rcases List.mem_append.1 hq with hq | hq
        · exact old q (List.mem_of_mem_take hq)
        · rcases List.mem_cons.1 hq with rfl | hq
          · exact ⟨own_base by7, fun g hg => Or.inr ⟨Nat.le_trans H6.out.2.2.2 (by7.lt g hg).1, (by7.lt g hg).2⟩, vw_ok HT.out.1⟩
          · exact old q (List.mem_of_mem_drop hq)
      · rcases List.mem_append.1 hq with hq | hq
        · exact HN.out.1.key q (List.mem_of_mem_take hq)
        · rcases List.mem_cons.1 hq with rfl | hq
          · exact HKK.out
          · exact HN.out.1.key q (List.mem_of_mem_drop hq)
    rw [← el]
    have HB7 : Hid (Below w.heap.size w w7) := bw7
    clear own7 gr7 nn7 T7 B7 by7 bw7 el A3 H3b H6
    go_wp2_with fail
    go_ret
    refine ⟨av', cv', _, rfl, HF.out, ?_, fun q hq => ?_, HB7.out⟩
    · rw [HE.out, List.map_append, List.map_cons, List.map_take, List.map_drop]
    · rcases List.mem_append.1 hq with hq | hq
      · exact Or.inl (List.mem_of_mem_take hq)
      · rcases List.mem_cons.1 hq with rfl | hq
        · exact Or.inr ⟨rfl, rfl⟩
        · exact Or.inl (List.mem_of_mem_drop hq)
end Go.Proofs.YtlhllbggnpcoaaaGreatDoor
