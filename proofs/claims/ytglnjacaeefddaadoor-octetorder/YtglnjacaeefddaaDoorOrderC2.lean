import Derived.Test.YtglnjacaeefddaaDoorOrderC
namespace Go.Proofs.YtglnjacaeefddaaDoor
open Go.RowKit

set_option maxHeartbeats 1600000 in
set_option maxRecDepth 100000 in
theorem order_lt2 (w : World) (a b c : Option Addr) (n ca m cb l cc : Nat) (A B : Nat → Int) (ab ao bb bo K : Nat) (y z : Int) (_ : -1 ≤ y ∧ y ≤ 1) (_ : -1 ≤ z ∧ z ≤ 1)
    (H : OrderCalls w a b c n ca m cb l cc A B ab ao bb bo K (-1) y z) (hS : (str n A).toList ≠ (str m B).toList) (hKn : K < n) (hKm : K < m) (hae : a = some ⟨ab, ao, none⟩) (hbe : b = some ⟨bb, bo, none⟩) (ha0 : ab < w.heap.size) (hb0 : bb < w.heap.size) (ha1 : w.cell? ⟨ab, ao + K, none⟩ = some (.int .u8 (A K))) (hb1 : w.cell? ⟨bb, bo + K, none⟩ = some (.int .u8 (B K))) (hlt : A K < B K) (_ : y ≤ 0) (_ : z ≤ 0) :
    Calls Tryd.prog 5 #[.slice a n ca, .slice b m cb, .slice c l cc] w fun e w' => e = .returned (.bool true) ∧ Below w.heap.size w w' := by
  have lena := H.lena
  have lenb := H.lenb
  have capa := H.capa
  have capb := H.capb
  have B0 : ∀ q, Below w.heap.size w (w.drewN q) := fun q => below_drewN (Below.refl _ _) q
  have cva := fun q => H.cva _ (B0 q)
  have cvb := fun q => H.cvb _ (B0 q)
  subst hae hbe
  have sx : ((str n A).toList == (str m B).toList) = false := by rw [beq_eq_false_iff_ne]; exact hS
  clear hS
  go_enter Tryd.func5, Tryd.ntmps5
  go_wp2_with fail
  refine (H.kab _ (Below.refl _ _)).mono ?_
  rintro e w1 ⟨rfl, q1, rfl⟩
  go_wp2_with fail
  refine (H.kbc _ (B0 _)).mono ?_
  rintro e w1 ⟨rfl, q2, rfl⟩
  simp only [World.drewN_drewN]
  go_wp2_with fail
  refine (H.kac _ (B0 _)).mono ?_
  rintro e w1 ⟨rfl, q3, rfl⟩
  simp only [World.drewN_drewN]
  go_wp2_with fail
  refine (H.kba _ (B0 _)).mono ?_
  rintro e w1 ⟨rfl, q4, rfl⟩
  simp only [World.drewN_drewN]
  go_wp2_with fail
  refine (H.kaa _ (B0 _)).mono ?_
  rintro e w1 ⟨rfl, q5, rfl⟩
  simp only [World.drewN_drewN]
  go_wp2_with fail
  refine (fixed_any _ (H.tab.drewN _)).mono ?_
  rintro e w2 ⟨rfl, b2⟩
  have B2 : Below w.heap.size w w2 := (B0 _).trans b2
  clear b2 cva cvb B0
  go_wp2_with fail
  refine (H.com _ B2).mono ?_
  rintro e w3 ⟨rfl, q6, rfl⟩
  have B3 : ∀ q, Below w.heap.size w (w2.drewN q) := fun q => below_drewN B2 q
  have cka := fun q => H.cka _ (B3 q)
  have ckb := fun q => H.ckb _ (B3 q)
  have d1 : decide (n < K) = false := decide_eq_false (by omega)
  have d2 : decide (m < K) = false := decide_eq_false (by omega)
  have d0 : decide ((K : Int) < 0) = false := decide_eq_false (by omega)
  have j1 := sliceAt_upto (some ⟨ab, ao, none⟩) n ca K (by omega)
  have j2 := sliceAt_upto (some ⟨bb, bo, none⟩) m cb K (by omega)
  have j3 := slice_upto (some ⟨ab, ao, none⟩) n ca K (by omega)
  have j4 := slice_upto (some ⟨bb, bo, none⟩) m cb K (by omega)
  have i1 : (K : Int) < (n : Int) := by omega
  have i2 : (K : Int) < (m : Int) := by omega
  have g1 : ∀ q, (w2.drewN q).cell? ⟨ab, ao + K, none⟩ = some (.int .u8 (A K)) := fun q => (B3 q |>.cell (p := ⟨ab, ao + K, none⟩) ha0).trans ha1
  have g2 : ∀ q, (w2.drewN q).cell? ⟨bb, bo + K, none⟩ = some (.int .u8 (B K)) := fun q => (B3 q |>.cell (p := ⟨bb, bo + K, none⟩) hb0).trans hb1
  have e5 : (A K == B K) = false := by rw [beq_eq_false_iff_ne]; omega
  go_wp2
  go_quiet (fail)
  simp only [World.drewN_drewN]
  go_wp2
  go_quiet (fail)
  simp only [World.drewN_drewN]
  clear cka ckb
  go_wp2_with fail
  refine (H.low _ (B3 _)).mono ?_
  rintro e w4 ⟨rfl, b4⟩
  have B4 := (B3 _).trans (b4.mono (B3 _).size)
  go_wp2_with fail
  refine (H.upp _ B4).mono ?_
  rintro e w5 ⟨rfl, b5⟩
  have B5 := B4.trans (b5.mono B4.size)
  go_wp2_with fail
  refine (H.all _ B5).mono ?_
  rintro e w6 ⟨rfl, b6⟩
  have B6 := B5.trans (b6.mono B5.size)
  clear B3 B4 B5 b4 b5 b6
  go_wp2
  all_goals go_ret
  all_goals exact ⟨by simp_all, B6⟩

end Go.Proofs.YtglnjacaeefddaaDoor
