import Derived.Test.YtglnjacaeefddaaDoorFixed
namespace Go.Proofs.YtglnjacaeefddaaDoor
open Go.RowKit

def wit (nf n nt : Nat) (F K T : Nat → Int) (o : Bool) : Bool := decide (cmp nf n F K ≤ 0) && (o || decide (cmp n nt K T < 0))

set_option maxHeartbeats 800000 in
theorem within_any (w : World) (a f t : Option Addr) (b off n c fb fo nf fc tb to nt tc : Nat) (K F T : Nat → Int) (o : Bool)
    (h : View w a b off n K) (hf : View w f fb fo nf F) (ht : View w t tb to nt T) :
    Calls Tryd.prog 14 #[.slice a n c, .agg #[.slice f nf fc, .slice t nt tc, .bool o]] w fun e w' => e = .returned (.bool (wit nf n nt F K T o)) ∧ Below w.heap.size w w' := by
  have b1 : ∀ x, Below w.heap.size w (w.alloc x) := fun x => (Below.refl _ _).alloc (Nat.le_refl _) x
  have HK : Hid (∀ w', Below w.heap.size w w' → View w' a b off n K) := fun w' hb => h.below hb
  have HF : Hid (∀ w', Below w.heap.size w w' → View w' f fb fo nf F) := fun w' hb => hf.below hb
  have HT : Hid (∀ w', Below w.heap.size w w' → View w' t tb to nt T) := fun w' hb => ht.below hb
  clear h hf ht
  have hw : wit nf n nt F K T o = (decide (cmp nf n F K ≤ 0) && (o || decide (cmp n nt K T < 0))) := rfl
  rw [hw]
  clear hw
  have k1 := compare_any _ f a fb fo nf fc b off n c F K (HF.out _ (b1 (.cells #[.slice f nf fc, .slice t nt tc, .bool o] 29))) (HK.out _ (b1 (.cells #[.slice f nf fc, .slice t nt tc, .bool o] 29)))
  have k2 := fun q => compare_any _ a t b off n c tb to nt tc K T (HK.out _ (below_drewN (b1 (.cells #[.slice f nf fc, .slice t nt tc, .bool o] 29)) q)) (HT.out _ (below_drewN (b1 (.cells #[.slice f nf fc, .slice t nt tc, .bool o] 29)) q))
  have B : ∀ q, Below w.heap.size w ((w.alloc (.cells #[.slice f nf fc, .slice t nt tc, .bool o] 29)).drewN q) := fun q => below_drewN (b1 _) q
  clear b1 HK HF HT
  have hc := cmp_bd nf n F K
  have hc2 := cmp_bd n nt K T
  obtain ⟨x, hx⟩ : ∃ x, x = cmp nf n F K := ⟨_, rfl⟩
  obtain ⟨y, hy⟩ : ∃ y, y = cmp n nt K T := ⟨_, rfl⟩
  rw [← hx] at hc k1
  rw [← hy] at hc2 k2
  rw [← hx, ← hy]
  clear hx hy
  by_cases e1 : 0 < x
  · have r : (decide (x ≤ 0) && (o || decide (y < 0))) = false := by simp; omega
    rw [r]
    clear r
    go_enter Tryd.func14, Tryd.ntmps14
    go_wp2_with fail
    refine k1.mono ?_
    rintro e w1 ⟨rfl, q, rfl⟩
    go_wp2
    go_ret
    exact ⟨rfl, B q⟩
  · have r : (decide (x ≤ 0) && (o || decide (y < 0))) = (o || decide (y < 0)) := by have : x ≤ 0 := by omega
                                                                                     simp [this]
    rw [r]
    clear r
    cases o
    · go_enter Tryd.func14, Tryd.ntmps14
      go_wp2_with fail
      refine k1.mono ?_
      rintro e w1 ⟨rfl, q, rfl⟩
      go_wp2_with fail
      refine (k2 q).mono ?_
      rintro e w1 ⟨rfl, q', rfl⟩
      go_wp2
      go_ret
      exact ⟨by simp, B _⟩
    · go_enter Tryd.func14, Tryd.ntmps14
      go_wp2_with fail
      refine k1.mono ?_
      rintro e w1 ⟨rfl, q, rfl⟩
      go_wp2
      go_ret
      exact ⟨rfl, B q⟩

end Go.Proofs.YtglnjacaeefddaaDoor
