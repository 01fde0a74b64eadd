/-
  The literal in (*Device).settle. (Written by gen_s1.py.)
-/
import Derived.Test.YthjcndlapelnlaaUn
namespace Go.Proofs.Ythjcndlapelnlaa
open Go.RowKit Go.Maps Go.ChangeMaps

theorem wrap_nat {n : Nat} (h : n ≤ 1073741825) : IntKind.i64.wrap ((n : Int) + 1) = (n : Int) + 1 := by
  rw [IntKind.wrap_i64]
  omega
theorem Dr.lsf {w : World} {F : Nat → Prop} {s : Dst} {X : Dx} (h : Dr w F s X) : ∃ a c, X.ls = .slice a s.tm c := by
  obtain ⟨xs, q⟩ := h.lo
  exact own_slice q
/-- has the access on its way turned what stands under k? -/
def turnd (S : List Sty) (t : Nat) : Bool := !(undr S t).same (undr S ((t : Int) + 1))
set_option maxRecDepth 100000 in
set_option maxHeartbeats 3200000 in
theorem settle1_any {w : World} {F : Nat → Prop} {g bx : Nat} {s : Dst} {X : Dx} (hd : Db w g (X.dvf s)) (h : Dr w F s X) (hN : X.N ≤ 1073741824) {k : List Nat} (hk : IsH k) (hbx : w.cell? ⟨bx, 0, none⟩ = some (.pointer (some ⟨g, 0, none⟩))) :
    Calls Try.prog 62 #[.agg (bv k).toArray, .pointer (some ⟨bx, 0, none⟩)] w fun e w' => e = .returned (.bool (turnd (s.sta k) s.tm)) ∧ Below w.heap.size w w' := by
  have HW : Hid (∀ u, Below (w.alloc (.cells (bv k).toArray 33)).heap.size (w.alloc (.cells (bv k).toArray 33)) u → Db u g (X.dvf s) ∧ Dr u F s X ∧ u.rangeAt w.heap.size 0 (bv k) ∧ u.cell? ⟨bx, 0, none⟩ = some (.pointer (some ⟨g, 0, none⟩)) ∧ Below w.heap.size w u) := fun u b2 => by
    have b1 : Below w.heap.size w (w.alloc (.cells (bv k).toArray 33)) := (Below.refl _ _).alloc (Nat.le_refl _) _
    have b := ch b1 b2
    exact ⟨hd.keep b, h.keep b, rng_keep (rng_new w _ _) b2, (b.cell (World.block_lt_of_cell? _ _ hbx)).trans hbx, b⟩
  have HK : Hid (IsH k) := hk
  obtain ⟨la, lc, el⟩ := h.lsf
  have HL : Hid (X.ls = .slice la s.tm lc) := el
  have htm : s.tm ≤ 1073741824 := Nat.le_trans h.bd.1 hN
  have hwr := wrap_nat (n := s.tm) (by omega)
  obtain ⟨n, en⟩ : ∃ n, n = s.tm := ⟨_, rfl⟩
  have HN : Hid (n = s.tm) := en
  have HT : Hid (∀ u, Below (w.alloc (.cells (bv k).toArray 33)).heap.size (w.alloc (.cells (bv k).toArray 33)) u → Calls Try.prog 64 #[.pointer (some ⟨g, 0, none⟩)] u fun e w' => e = .returned (.int .i64 (n : Int)) ∧ w' = u) := fun u hu => by
    rw [en]
    exact time_any (HW.out u hu).1 HL.out
  have HUN : Hid (∀ u (t : Int), 0 ≤ t → t ≤ 1099511627774 → Below (w.alloc (.cells (bv k).toArray 33)).heap.size (w.alloc (.cells (bv k).toArray 33)) u → Calls Try.prog 63 #[.pointer (some ⟨g, 0, none⟩), .agg (bv k).toArray, .int .i64 t] u fun e w' => ∃ d, e = .returned (.agg #[.int .i64 (undr (s.sta k) t).since, d, .bool (undr (s.sta k) t).there]) ∧ Vb w' d (undr (s.sta k) t).data ∧ Below u.heap.size u w') := fun u t h0 h1 hu => under_any (HW.out u hu).1 (HW.out u hu).2.1 hN HK.out t h0 h1
  rw [← en] at hwr htm
  clear hd h en el
  go_enter Try.func62, Try.ntmps62
  go_wp2_with fail
  refine wp_region_held_drew (S := fun u => Below (w.alloc (.cells (bv k).toArray 33)).heap.size (w.alloc (.cells (bv k).toArray 33)) u) (by kernel_rfl) (by exact (Below.refl _ _).drew) ?_
  intro hS
  change wpAnyH _ _ _ _ _ 14 _ _ _
  refine wpAnyH_take (i := 0) (v := (.pointer (some ⟨g, 0, none⟩))) (by simp only [List.getElem?_toArray, List.getElem?_cons_zero]; rfl) (by kernel_rfl) (by kernel_rfl) (by kernel_rfl) (by exact fun _ _ _ h => h) (y_l_dev (by kernel_rfl) _ rfl _ _ rfl _ (fun u hs => (HW.out u hs).2.2.2.1)) hS ?_
  try simp only [Act.put, List.setIfInBounds_toArray, List.set_cons_zero, List.set_cons_succ]
  refine wpAnyH_take (i := 1) (v := (.agg (bv k).toArray)) (by simp only [List.getElem?_toArray, List.getElem?_cons_zero, List.getElem?_cons_succ]; rfl) (by kernel_rfl) (by kernel_rfl) (by kernel_rfl) (by exact fun _ _ _ h => h) (y_s_Hash (by kernel_rfl) _ rfl _ _ rfl k HK.out.1 (fun u hs => (HW.out u hs).2.2.1)) hS ?_
  try simp only [Act.put, List.setIfInBounds_toArray, List.set_cons_zero, List.set_cons_succ]
  refine wpAnyH_take (i := 2) (v := (.pointer (some ⟨g, 0, none⟩))) (by simp only [List.getElem?_toArray, List.getElem?_cons_zero, List.getElem?_cons_succ]; rfl) (by kernel_rfl) (by kernel_rfl) (by kernel_rfl) (by exact fun _ _ _ h => h) (y_l_dev (by kernel_rfl) _ rfl _ _ rfl _ (fun u hs => (HW.out u hs).2.2.2.1)) hS ?_
  try simp only [Act.put, List.setIfInBounds_toArray, List.set_cons_zero, List.set_cons_succ]
  refine wpAnyH_take (i := 5) (v := (.pointer (some ⟨g, 0, none⟩))) (by simp only [List.getElem?_toArray, List.getElem?_cons_zero, List.getElem?_cons_succ]; rfl) (by kernel_rfl) (by kernel_rfl) (by kernel_rfl) (by exact fun _ _ _ h => h) (y_l_dev (by kernel_rfl) _ rfl _ _ rfl _ (fun u hs => (HW.out u hs).2.2.2.1)) hS ?_
  try simp only [Act.put, List.setIfInBounds_toArray, List.set_cons_zero, List.set_cons_succ]
  refine wpAnyH_take (i := 6) (v := (.agg (bv k).toArray)) (by simp only [List.getElem?_toArray, List.getElem?_cons_zero, List.getElem?_cons_succ]; rfl) (by kernel_rfl) (by kernel_rfl) (by kernel_rfl) (by exact fun _ _ _ h => h) (y_s_Hash (by kernel_rfl) _ rfl _ _ rfl k HK.out.1 (fun u hs => (HW.out u hs).2.2.1)) hS ?_
  try simp only [Act.put, List.setIfInBounds_toArray, List.set_cons_zero, List.set_cons_succ]
  refine wpAnyH_take (i := 7) (v := (.pointer (some ⟨g, 0, none⟩))) (by simp only [List.getElem?_toArray, List.getElem?_cons_zero, List.getElem?_cons_succ]; rfl) (by kernel_rfl) (by kernel_rfl) (by kernel_rfl) (by exact fun _ _ _ h => h) (y_l_dev (by kernel_rfl) _ rfl _ _ rfl _ (fun u hs => (HW.out u hs).2.2.2.1)) hS ?_
  try simp only [Act.put, List.setIfInBounds_toArray, List.set_cons_zero, List.set_cons_succ]
  refine wpAnyH_ready (rs := [3]) (by kernel_rfl) (by simp) ?_
  refine AllReadyH.cons (by simp only [List.getElem?_toArray, List.getElem?_cons_zero, List.getElem?_cons_succ]; rfl) (fun K hK => ?_) AllReadyH.nil
  go_simp
  refine (HT.out _ hS).mono ?_
  rintro _ u1 ⟨rfl, hw⟩
  rw [hw]
  clear hw u1
  refine hK.out _ _ hS (fun hS => ?_)
  clear hK K
  try simp only [Act.put, List.setIfInBounds_toArray, List.set_cons_zero, List.set_cons_succ]
  refine wpAnyH_ready (rs := [4]) (by kernel_rfl) (by simp) ?_
  refine AllReadyH.cons (by simp only [List.getElem?_toArray, List.getElem?_cons_zero, List.getElem?_cons_succ]; rfl) (fun K hK => ?_) AllReadyH.nil
  go_simp
  refine (HUN.out _ (n : Int) (by omega) (by omega) hS).mono ?_
  rintro _ u2 ⟨d1, rfl, hvd1, hb⟩
  replace hS := hS.trans (hb.mono hS.size)
  clear hb
  refine hK.out _ _ hS (fun hS => ?_)
  clear hK K
  try simp only [Act.put, List.setIfInBounds_toArray, List.set_cons_zero, List.set_cons_succ]
  refine wpAnyH_ready (rs := [8]) (by kernel_rfl) (by simp) ?_
  refine AllReadyH.cons (by simp only [List.getElem?_toArray, List.getElem?_cons_zero, List.getElem?_cons_succ]; rfl) (fun K hK => ?_) AllReadyH.nil
  go_simp
  refine (HT.out _ hS).mono ?_
  rintro _ u3 ⟨rfl, hw⟩
  rw [hw]
  clear hw u3
  refine hK.out _ _ hS (fun hS => ?_)
  clear hK K
  try simp only [Act.put, List.setIfInBounds_toArray, List.set_cons_zero, List.set_cons_succ]
  refine wpAnyH_take (i := 9) (v := (.int .i64 ((n : Int) + 1))) (by simp only [List.getElem?_toArray, List.getElem?_cons_zero, List.getElem?_cons_succ]; rfl) (by kernel_rfl) (by kernel_rfl) (by kernel_rfl) (by exact fun _ _ _ h => h) (y_addIr (by kernel_rfl) _ _ rfl _ _ _ rfl rfl hwr) hS ?_
  try simp only [Act.put, List.setIfInBounds_toArray, List.set_cons_zero, List.set_cons_succ]
  refine wpAnyH_ready (rs := [10]) (by kernel_rfl) (by simp) ?_
  refine AllReadyH.cons (by simp only [List.getElem?_toArray, List.getElem?_cons_zero, List.getElem?_cons_succ]; rfl) (fun K hK => ?_) AllReadyH.nil
  go_simp
  refine (HUN.out _ ((n : Int) + 1) (by omega) (by omega) hS).mono ?_
  rintro _ u4 ⟨d2, rfl, hvd2, hb⟩
  replace hvd1 := hvd1.keep hb
  replace hS := hS.trans (hb.mono hS.size)
  clear hb
  refine hK.out _ _ hS (fun hS => ?_)
  clear hK K
  try simp only [Act.put, List.setIfInBounds_toArray, List.set_cons_zero, List.set_cons_succ]
  refine wpAnyH_ready (rs := [11]) (by kernel_rfl) (by simp) ?_
  refine AllReadyH.cons (by simp only [List.getElem?_toArray, List.getElem?_cons_zero, List.getElem?_cons_succ]; rfl) (fun K hK => ?_) AllReadyH.nil
  go_simp
  refine (ssame_any hvd1 hvd2).mono ?_
  rintro _ u5 ⟨rfl, hb⟩
  replace hS := hS.trans (hb.mono hS.size)
  clear hb
  refine hK.out _ _ hS (fun hS => ?_)
  clear hK K
  try simp only [Act.put, List.setIfInBounds_toArray, List.set_cons_zero, List.set_cons_succ]
  refine wpAnyH_take (i := 12) (v := (.bool (!((undr (s.sta k) (n : Int)).same (undr (s.sta k) ((n : Int) + 1)))))) (by simp only [List.getElem?_toArray, List.getElem?_cons_zero, List.getElem?_cons_succ]; rfl) (by kernel_rfl) (by kernel_rfl) (by kernel_rfl) (by exact fun _ _ _ h => h) (y_not (by kernel_rfl) _ rfl _ rfl) hS ?_
  try simp only [Act.put, List.setIfInBounds_toArray, List.set_cons_zero, List.set_cons_succ]
  refine wpAnyH_take (i := 13) (v := (.bool (!((undr (s.sta k) (n : Int)).same (undr (s.sta k) ((n : Int) + 1)))))) (by simp only [List.getElem?_toArray, List.getElem?_cons_zero, List.getElem?_cons_succ]; rfl) (by kernel_rfl) (by kernel_rfl) (by kernel_rfl) (by exact fun _ _ _ h => h) (y_assign (by kernel_rfl) _ rfl _ rfl) hS ?_
  try simp only [Act.put, List.setIfInBounds_toArray, List.set_cons_zero, List.set_cons_succ]
  refine wpAnyH_done (by kernel_rfl) ?_ _
  have HF : Hid (Below w.heap.size w u5) := (HW.out _ hS).2.2.2.2
  clear hS HW HT HUN hvd1 hvd2
  go_wp2_with fail
  go_ret
  exact ⟨by rw [← HN.out]; rfl, HF.out⟩
end Go.Proofs.Ythjcndlapelnlaa
