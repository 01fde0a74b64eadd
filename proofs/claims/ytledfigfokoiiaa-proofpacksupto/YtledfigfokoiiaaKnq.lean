import Derived.Test.YtledfigfokoiiaaUnq
/-
  The law's known: a list of one string of three bytes, there and back.
-/
namespace Go.Proofs.Ytledfigfokoiiaa
open Go.RowKit
def L0 : List (List Nat) := [[194, 32, 1]]
def s0 : List Nat := [196, 131, 194, 32, 1]
theorem pf0 : pfE L0 = 0 ∧ pf L0 = s0 := by
  have : form (lit L0) = s0 := by kernel_rfl
  obtain ⟨h1, h2⟩ := pf_ok (L := L0) (by decide) (by rw [this]; decide)
  exact ⟨h1, h2.trans this⟩
theorem uf0 : ufE s0 = 0 ∧ uf s0 = L0 := by
  have := pf_uf pf0.1
  rw [pf0.2] at this
  exact this
theorem vb_new {w w' : World} {g : Nat} {cs : Array Value} {fr : Nat × Nat} {s : List Nat} (h : w.heap[g]? = some (.cells cs 5 fr)) (hc : cs = (bv s).toArray) (hs : ∀ x ∈ s, x < 256) (hl : s.length ≤ 1048576) (k : Below w.heap.size w w') : Vb w' (.slice (some ⟨g, 0, none⟩) s.length s.length) s := by
  subst hc
  refine (Vb.keep (w := w) ⟨_, g, 0, s.length, rfl, ⟨fun _ => rfl, fun i hi => ?_, fun i _ => by have := gd_lt hs i; omega, by omega⟩, Nat.le_refl _, (fun h => by cases h), by omega⟩ k)
  rw [Nat.zero_add, cell_of_row _ _ _ _ 5 _ h]
  simpa using bv_at hi
/-- a list of one list, just laid -/
theorem lv0 (w : World) : Lv ((w.alloc (.cells #[.int .u8 194, .int .u8 32, .int .u8 1] 5)).alloc (.cells #[.slice (some ⟨w.heap.size, 0, none⟩) 3 3] 23)) (.slice (some ⟨w.heap.size + 1, 0, none⟩) 1 1) L0 := by
  have v := vb_new (s := [194, 32, 1]) (heap_alloc_new w (.cells #[.int .u8 194, .int .u8 32, .int .u8 1] 5)) rfl (by decide) (by decide) (below_alloc (w.alloc (.cells #[.int .u8 194, .int .u8 32, .int .u8 1] 5)) (.cells #[.slice (some ⟨w.heap.size, 0, none⟩) 3 3] 23))
  refine ⟨_, w.heap.size + 1, 0, 1, [.slice (some ⟨w.heap.size, 0, none⟩) 3 3], rfl, rfl, fun _ => rfl, fun i u hu => ?_, fun i u s hu hs => ?_, by decide, by decide⟩
  · have := heap_alloc_new (w.alloc (.cells #[.int .u8 194, .int .u8 32, .int .u8 1] 5)) (.cells #[.slice (some ⟨w.heap.size, 0, none⟩) 3 3] 23)
    rw [show (w.alloc (.cells #[.int .u8 194, .int .u8 32, .int .u8 1] 5)).heap.size = w.heap.size + 1 by simp] at this
    rw [Nat.zero_add, cell_of_row _ _ _ _ _ _ this]
    simpa using hu
  · match i, hu, hs with
    | 0, hu, hs =>
      simp [L0] at hu hs
      subst hu
      subst hs
      exact v
theorem sB0 : sB s0 = ⟨#[196, 131, 194, 32, 1]⟩ := by kernel_rfl
set_option maxRecDepth 100000 in
set_option maxHeartbeats 1600000 in
theorem known_any (w : World) : Calls Try.prog 10 #[] w fun e w' => e = .returned (.bool true) ∧ Below w.heap.size w w' := by
  have KN := num_any
  have K1 := packs_any _ _ _ (lv0 w)
  have B0 : Hid (Below w.heap.size w ((w.alloc (.cells #[.int .u8 194, .int .u8 32, .int .u8 1] 5)).alloc (.cells #[.slice (some ⟨w.heap.size, 0, none⟩) 3 3] 23))) := ch (below_alloc _ _) (below_alloc _ _)
  unfold PkPost at K1
  rw [pf0.1, pf0.2] at K1
  go_enter Try.func10, Try.ntmps10
  go_wp2_with fail
  refine K1.mono ?_
  rintro e w1 ⟨u, rfl, s1, b1⟩
  obtain ⟨a1, c1, e1⟩ := own_slice s1.own
  subst e1
  have HB1 : Hid (Below w.heap.size w w1) := ch B0.out b1
  have HV1 : Hid (Vb w1 (.slice a1 s0.length c1) s0) := s1.vb (by decide)
  have K2 := unpack_any _ _ _ (vb_new (s := s0) (heap_alloc_new w1 (.cells #[.int .u8 196, .int .u8 131, .int .u8 194, .int .u8 32, .int .u8 1] 5)) rfl (by decide) (by decide) (Below.refl _ _))
  unfold UnPost at K2
  rw [uf0.1, uf0.2] at K2
  clear s1 b1 K1
  go_wp2_with fail
  refine K2.mono ?_
  rintro e w2 ⟨u2, Us, rfl, g2, b2⟩
  obtain ⟨a2, c2, e2⟩ := own_slice g2.own
  subst e2
  have HB2 : Hid (Below w1.heap.size w1 w2) := ch (below_alloc _ _) b2
  have hl2 := g2.lv (by decide)
  have cv := (conv_vb HV1.out).2 w2 HB2.out
  rw [sB0] at cv
  have bx : Below w2.heap.size w2 ((w2.alloc (.cells #[.int .u8 194, .int .u8 32, .int .u8 1] 5)).alloc (.cells #[.slice (some ⟨w2.heap.size, 0, none⟩) 3 3] 23)) := ch (below_alloc _ _) (below_alloc _ _)
  have K3 := same_yes (hl2.keep bx) (lv0 w2)
  have HB3 : Hid (Below w2.heap.size w2 ((w2.alloc (.cells #[.int .u8 194, .int .u8 32, .int .u8 1] 5)).alloc (.cells #[.slice (some ⟨w2.heap.size, 0, none⟩) 3 3] 23))) := bx
  clear g2 b2 K2 hl2 bx
  go_wp2_with (first
    | (go_at_call 7; refine (KN _ _).mono ?_; rintro e w' ⟨rfl, hw'⟩; subst w')
    | (go_at_call 9; refine K3.mono ?_; rintro e w3 ⟨rfl, b3⟩; have HB4 : Hid (Below w.heap.size w w3) := ch HB1.out (ch HB2.out (ch HB3.out b3)); clear b3))
  go_ret
  exact ⟨rfl, HB4.out⟩
end Go.Proofs.Ytledfigfokoiiaa
