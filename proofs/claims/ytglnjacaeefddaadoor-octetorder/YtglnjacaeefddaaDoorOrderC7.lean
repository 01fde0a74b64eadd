import Derived.Test.YtglnjacaeefddaaDoorOrderC
namespace Go.Proofs.YtglnjacaeefddaaDoor
open Go.RowKit

set_option maxHeartbeats 1600000 in
set_option maxRecDepth 100000 in
theorem order_same1 (w : World) (a b c : Option Addr) (ca cb l cc : Nat) (A B : Nat → Int) (ab ao bb bo K : Nat) (y z : Int) (_ : -1 ≤ y ∧ y ≤ 1) (_ : -1 ≤ z ∧ z ≤ 1)
    (H : OrderCalls w a b c K ca K cb l cc A B ab ao bb bo K (0) y z) (hS : (str K A).toList = (str K B).toList) (_ : 0 < y) :
    Calls Tryd.prog 5 #[.slice a K ca, .slice b K cb, .slice c l cc] w fun e w' => e = .returned (.bool true) ∧ Below w.heap.size w w' := by
  have lena := H.lena
  have lenb := H.lenb
  have capa := H.capa
  have capb := H.capb
  have B0 : ∀ q, Below w.heap.size w (w.drewN q) := fun q => below_drewN (Below.refl _ _) q
  have cva := fun q => H.cva _ (B0 q)
  have cvb := fun q => H.cvb _ (B0 q)
  have sx : ((str K A).toList == (str K B).toList) = true := by rw [beq_iff_eq]; exact hS
  clear hS
  go_enter Tryd.func5, Tryd.ntmps5
  go_wp2_with fail
  refine (H.kab _ (Below.refl _ _)).mono ?_
  rintro e w1 ⟨rfl, q1, rfl⟩
  go_wp2_with fail
  refine (H.kbc _ (B0 _)).mono ?_
  rintro e w1 ⟨rfl, q2, rfl⟩
  simp only [World.drewN_drewN]
  go_wp2_with fail
  refine (H.kac _ (B0 _)).mono ?_
  rintro e w1 ⟨rfl, q3, rfl⟩
  simp only [World.drewN_drewN]
  go_wp2_with fail
  refine (H.kba _ (B0 _)).mono ?_
  rintro e w1 ⟨rfl, q4, rfl⟩
  simp only [World.drewN_drewN]
  go_wp2_with fail
  refine (H.kaa _ (B0 _)).mono ?_
  rintro e w1 ⟨rfl, q5, rfl⟩
  simp only [World.drewN_drewN]
  go_wp2_with fail
  refine (fixed_any _ (H.tab.drewN _)).mono ?_
  rintro e w2 ⟨rfl, b2⟩
  have B2 : Below w.heap.size w w2 := (B0 _).trans b2
  clear b2 cva cvb B0
  go_wp2_with fail
  refine (H.com _ B2).mono ?_
  rintro e w3 ⟨rfl, q6, rfl⟩
  have B3 : ∀ q, Below w.heap.size w (w2.drewN q) := fun q => below_drewN B2 q
  have cka := fun q => H.cka _ (B3 q)
  have ckb := fun q => H.ckb _ (B3 q)
  have d0 : decide ((K : Int) < 0) = false := decide_eq_false (by omega)
  have j1 := sliceAt_upto a K ca K (by omega)
  have j2 := sliceAt_upto b K cb K (by omega)
  have j3 := slice_upto a K ca K (by omega)
  have j4 := slice_upto b K cb K (by omega)
  go_wp2
  go_quiet (fail)
  simp only [World.drewN_drewN]
  go_wp2
  go_quiet (fail)
  simp only [World.drewN_drewN]
  clear cka ckb
  go_wp2_with fail
  refine (H.low _ (B3 _)).mono ?_
  rintro e w4 ⟨rfl, b4⟩
  have B4 := (B3 _).trans (b4.mono (B3 _).size)
  go_wp2_with fail
  refine (H.upp _ B4).mono ?_
  rintro e w5 ⟨rfl, b5⟩
  have B5 := B4.trans (b5.mono B4.size)
  go_wp2_with fail
  refine (H.all _ B5).mono ?_
  rintro e w6 ⟨rfl, b6⟩
  have B6 := B5.trans (b6.mono B5.size)
  clear B3 B4 B5 b4 b5 b6
  go_wp2
  all_goals go_ret
  all_goals exact ⟨by simp_all, B6⟩

end Go.Proofs.YtglnjacaeefddaaDoor
