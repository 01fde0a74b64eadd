import Derived.Test.YtglnjacaeefddaaDoorRefCmp
namespace Go.Proofs.YtglnjacaeefddaaDoor
open Go.RowKit

/-- a literal list of bytes, laid in a new block -/
theorem view_lit (w : World) (l : List Int) (hb : ∀ x ∈ l, 0 ≤ x ∧ x ≤ 255) (hl : l.length ≤ 281474976710656) :
    View (w.alloc (.cells (l.map (Value.int .u8)).toArray 5)) (some ⟨w.heap.size, 0, none⟩) w.heap.size 0 l.length (fun i => l.getD i 0) := by
  refine ⟨fun _ => rfl, fun i hi => ?_, fun i hi => ?_, hl⟩
  · rw [Nat.zero_add, World.cell?_alloc_new]
    simp [hi]
  · have : l.getD i 0 = l[i] := by simp [List.getD, hi]
    show 0 ≤ l.getD i 0 ∧ l.getD i 0 ≤ 255
    rw [this]
    exact hb _ (List.getElem_mem hi)

theorem below_of_drew {w w' : World} (h : ∃ q, w' = w.drewN q) : Below w.heap.size w w' ∧ w'.heap.size = w.heap.size := by
  obtain ⟨q, rfl⟩ := h
  exact ⟨below_drewN (Below.refl _ _) q, rfl⟩

theorem same_yes (w : World) (a a' : Option Addr) (b off n c b' off' n' c' : Nat) (Z Y : Nat → Int) (h : View w a b off n Z) (h' : View w a' b' off' n' Y) (e : Alike n n' Z Y) :
    Calls Tryd.prog 17 #[.slice a n c, .slice a' n' c'] w fun e w' => e = .returned (.bool true) ∧ Below w.heap.size w w' ∧ w'.heap.size = w.heap.size :=
  (same_any w a a' b off n c b' off' n' c' Z Y h h').mono fun e' w' ⟨he, hq⟩ => ⟨by rw [he, (cmp_zero_iff _ _ _ _).2 e]; rfl, below_of_drew hq⟩

theorem small_cases {P : Nat → Prop} (k : Nat) : (∀ i, i < k + 1 → P i) ↔ (P k ∧ ∀ i, i < k → P i) :=
  ⟨fun h => ⟨h k (by omega), fun i hi => h i (by omega)⟩, fun h i hi => by
    by_cases e : i = k
    · subst e; exact h.1
    · exact h.2 i (by omega)⟩
theorem small_none {P : Nat → Prop} : ∀ i, i < 0 → P i := fun i hi => absurd hi (by omega)

def sixS : ByteArray := ⟨#[48, 48, 97, 98, 102, 102]⟩
theorem six_dig : ∀ i, i < 6 → IsDig (sv sixS i) := by
  simp only [small_cases]
  refine ⟨?_, ?_, ?_, ?_, ?_, ?_, small_none⟩ <;> (unfold IsDig sv sixS; simp)
theorem six_unh : ∀ i, i < 3 → unh sixS i = [(0 : Int), 171, 255].getD i 0 := by
  simp only [small_cases]
  refine ⟨?_, ?_, ?_, small_none⟩ <;> (unfold unh val sv sixS; simp)
theorem six_nib : ∀ i, i < 6 → nib (fun i => [(18 : Int), 255, 0].getD i 0) i = [(1 : Int), 2, 15, 15, 0, 0].getD i 0 := by
  simp only [small_cases]
  refine ⟨?_, ?_, ?_, ?_, ?_, ?_, small_none⟩ <;> (unfold nib; simp)
theorem six_hex : hexS 3 (fun i => [(0 : Int), 171, 255].getD i 0) = sixS := by
  unfold hexS sixS strOfNums
  congr 1
theorem cmp_lit : cmp 2 3 (fun i => [(1 : Int), 2].getD i 0) (fun i => [(1 : Int), 2, 0].getD i 0) = -1 := by decide

set_option maxHeartbeats 800000 in
theorem fixed_any (w : World) (hT : Tab w) :
    Calls Tryd.prog 9 #[] w fun e w' => e = .returned (.bool true) ∧ Below w.heap.size w w' := by
  have HT : Hid (Tab w) := hT
  clear hT
  go_enter Tryd.func9, Tryd.ntmps9
  go_wp2_with fail
  refine (nibbles_any _ _ _ 0 3 _ _ (view_lit w [18, 255, 0] (by simp) (by simp)) (by omega)).mono ?_
  rintro e w1 ⟨rfl, h1⟩
  have b1 : Below w.heap.size w w1 := ((Below.refl _ _).alloc (Nat.le_refl _) _).trans (h1.below.mono (by simp))
  have v1 := h1.view (fun i hi => by have := nib_bd 3 _ (fun i hi => (view_lit w [18, 255, 0] (by simp) (by simp)).bd i hi) i hi; omega) (by omega)
  simp only [World.size_alloc] at v1
  have z1 : w.heap.size < w1.heap.size := by have := h1.size; simp at this; omega
  clear h1
  have HT1 : Hid (Tab w1) := HT.out.below b1 HT.out.lt
  go_wp2_with fail
  refine (unhex_even w1 sixS 3 HT1.out (by decide) (by decide)).mono ?_
  rintro e w2 (⟨-, rfl, h2⟩ | ⟨⟨i, hi, hd⟩, rfl, h2⟩)
  · have b2 := h2.below
    have v2 := (h2.view (fun i hi => by rw [six_unh i hi]; revert i hi; simp only [small_cases]; exact ⟨by simp, by simp, by simp, small_none⟩) (by omega)).congr six_unh
    have z2 : w1.heap.size < w2.heap.size := by have := h2.size; omega
    clear h2
    have v12 := (v1.below b2).congr six_nib
    have HT2 : Hid (Tab w2) := HT1.out.below b2 HT1.out.lt
    have b02 : Below w.heap.size w w2 := b1.trans (b2.mono (by omega))
    clear b1 b2 v1 HT1
    go_wp2_with fail
    refine (same_yes _ _ _ _ _ 6 6 _ 0 6 6 _ _ (v12.below ((Below.refl _ _).alloc (Nat.le_refl _) _)) (view_lit w2 [1, 2, 15, 15, 0, 0] (by simp) (by simp)) ⟨rfl, fun i _ => rfl⟩).mono ?_
    rintro e w3 ⟨rfl, b3, z3⟩
    have b03 : Below w.heap.size w w3 := (b02.alloc (by omega) _).trans (b3.mono (by simp; omega))
    have v3 := (v2.below ((Below.refl _ _).alloc (Nat.le_refl _) _)).below b3
    have HT3 : Hid (Tab w3) := HT.out.below b03 HT.out.lt
    have y3 : w2.heap.size < w3.heap.size := by rw [z3]; simp
    clear b3 z3 b02 v2 v12 HT2
    go_wp2_with fail
    refine (same_yes _ _ _ _ _ 3 3 _ 0 3 3 _ _ (v3.below ((Below.refl _ _).alloc (Nat.le_refl _) _)) (view_lit w3 [0, 171, 255] (by simp) (by simp)) ⟨rfl, fun i _ => rfl⟩).mono ?_
    rintro e w4 ⟨rfl, b4, z4⟩
    have b04 : Below w.heap.size w w4 := (b03.alloc (by omega) _).trans (b4.mono (by simp; omega))
    have v4 := (v3.below ((Below.refl _ _).alloc (Nat.le_refl _) _)).below b4
    have HT4 : Hid (Tab w4) := HT.out.below b04 HT.out.lt
    have y4 : w3.heap.size < w4.heap.size := by rw [z4]; simp
    clear b4 z4 b03 v3 HT3
    go_wp2_with fail
    refine (hex_any w4 _ _ 0 3 3 _ v4 (by omega) HT4.out).mono ?_
    rintro e w5 ⟨rfl, b5⟩
    rw [six_hex]
    have b05 : Below w.heap.size w w5 := b04.trans (b5.mono (by omega))
    have y5 := b5.size
    have q5 : sixS.toList = [48, 48, 97, 98, 102, 102] := ByteArray.toList_mk _
    clear b5 b04 v4 HT4
    have u1 := (view_lit w5 [1, 2] (by simp) (by simp)).below ((Below.refl _ _).alloc (Nat.le_refl _) (.cells (([1, 2, 0] : List Int).map (Value.int .u8)).toArray 5))
    have u2 := view_lit (w5.alloc (.cells (([1, 2] : List Int).map (Value.int .u8)).toArray 5)) [1, 2, 0] (by simp) (by simp)
    simp only [World.size_alloc] at u2
    go_wp2_with fail
    refine (compare_any _ _ _ _ _ 2 2 _ _ 3 3 _ _ u1 u2).mono ?_
    rintro e w6 ⟨rfl, hq⟩
    have b6 := (below_of_drew hq).1
    rw [cmp_lit]
    have b06 : Below w.heap.size w w6 := ((b05.alloc (by omega) _).alloc (by simp; omega) _).trans (b6.mono (by simp; omega))
    clear u1 u2 hq b6 b05
    go_wp2
    go_ret
    exact ⟨rfl, b06⟩
  · exact absurd (six_dig i hi) hd

end Go.Proofs.YtglnjacaeefddaaDoor
