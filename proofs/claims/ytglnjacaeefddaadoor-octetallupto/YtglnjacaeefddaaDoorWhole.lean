import Derived.Test.YtglnjacaeefddaaDoorRoomy
import Derived.OpenShut
namespace Go.Proofs.YtglnjacaeefddaaDoor
open Go.RowKit

set_option maxHeartbeats 800000 in
/-- Whole, where all is as it was -/
theorem whole_yes (w : World) (g n cap : Nat) (a : Option Addr) (b off c : Nat) (Z : Nat → Int) (h : View w (some ⟨g, 0, none⟩) g 0 n Z) (h' : View w a b off n Z) (hr : n + 3 ≤ cap)
    (m0 : w.cell? ⟨g, n, none⟩ = some (.int .u8 77)) (m1 : w.cell? ⟨g, n + 1, none⟩ = some (.int .u8 78)) (m2 : w.cell? ⟨g, n + 2, none⟩ = some (.int .u8 79)) :
    Calls Tryd.prog 25 #[.slice (some ⟨g, 0, none⟩) n cap, .slice a n c] w fun e w' => e = .returned (.bool true) ∧ Below w.heap.size w w' := by
  have hn := h.len
  have K := same_any w _ _ _ _ n cap _ _ n c _ _ h h'
  rw [(cmp_zero_iff _ _ _ _).2 ⟨rfl, fun _ _ => rfl⟩] at K
  have HK : Hid (Calls Tryd.prog 17 #[.slice (some ⟨g, 0, none⟩) n cap, .slice a n c] w fun e w' => e = .returned (.bool ((0 : Int) == 0)) ∧ ∃ q, w' = w.drewN q) := K
  clear K h h'
  have j1 := fun u => sliceAt_upto (some ⟨g, 0, none⟩) n cap (n + 3) hr u
  have j2 := fun u => slice_upto (some ⟨g, 0, none⟩) n cap (n + 3) hr u
  rw [show ((n + 3 : Nat) : Int) = (n : Int) + 3 by omega] at j1 j2
  have i1 : (n : Int) < (n : Int) + 3 := by omega
  go_enter Tryd.func25, Tryd.ntmps25
  go_wp2_with fail
  refine HK.out.mono ?_
  rintro e w1 ⟨rfl, q, rfl⟩
  go_wp2
  go_ret
  exact ⟨rfl, below_drewN (Below.refl _ _) q⟩

/-- the lowest bit turned -/
def tz (x : Int) : Int := bits BinOp.xor IntKind.u8 x 1
theorem tz_bd (x : Int) : 0 ≤ tz x ∧ tz x ≤ 255 := bounds_u8 (wf_bits _ _ _ _)

/-- of all blocks this one alone may have turned -/
structure Only (g : Nat) (w w' : World) : Prop where
  os : w'.os = w.os
  tape : w'.tape = w.tape
  output : w'.output = w.output
  size : w'.heap.size = w.heap.size
  block : ∀ k, k ≠ g → w'.heap[k]? = w.heap[k]?
theorem Only.refl (g : Nat) (w : World) : Only g w w := ⟨rfl, rfl, rfl, rfl, fun _ _ => rfl⟩
theorem Only.setCell {g : Nat} {w w' : World} (h : Only g w w') (i : Nat) (v : Value) : Only g w (w'.setCell ⟨g, i, none⟩ v) :=
  ⟨h.os, h.tape, h.output, by simp [h.size], fun k hk => (Below.heap_setCell _ _ _ _ hk).trans (h.block k hk)⟩
theorem Only.below {g B : Nat} {w w' : World} (h : Only g w w') (hB : B ≤ g) : Below B w w' :=
  ⟨h.os, h.tape, h.output, by rw [h.size]; exact Nat.le_refl _, fun k hk => h.block k (by omega)⟩
theorem Only.cell {g : Nat} {w w' : World} (h : Only g w w') {p : Addr} (hp : p.block ≠ g) : w'.cell? p = w.cell? p := World.cell?_of_block (w := w) (h.block p.block hp)
theorem Only.frozen {g : Nat} {w w' : World} (h : Only g w w') {p : Addr} (hp : p.block ≠ g) : w'.frozen? p = w.frozen? p := World.frozen?_of_block (w := w) (h.block p.block hp)

set_option maxHeartbeats 800000 in
theorem turn_any (w : World) (g n cap : Nat) (Z : Nat → Int) (hc : ∀ i, i < n → w.cell? ⟨g, i, none⟩ = some (.int .u8 (Z i))) (hf : ∀ i, w.frozen? ⟨g, i, none⟩ = false) (hb : ∀ i, i < n → 0 ≤ Z i ∧ Z i ≤ 255) (hn : n ≤ 281474976710656) :
    Calls Tryd.prog 26 #[.slice (some ⟨g, 0, none⟩) n cap] w fun e w' => e = .returned (.tuple #[]) ∧ Only g w w' ∧ ∀ i, i < n → w'.cell? ⟨g, i, none⟩ = some (.int .u8 (tz (Z i))) := by
  go_enter Tryd.func26, Tryd.ntmps26
  go_wp2
  go_loopg [2] n (fun k' i wr => ∃ k : Nat, k ≤ n ∧ k' = n - k ∧ i = .int .i64 k ∧ Only g w wr ∧ (∀ i, wr.frozen? ⟨g, i, none⟩ = false) ∧ (∀ i, i < k → wr.cell? ⟨g, i, none⟩ = some (.int .u8 (tz (Z i)))) ∧ (∀ i, k ≤ i → i < n → wr.cell? ⟨g, i, none⟩ = some (.int .u8 (Z i))))
  case atStart => exact ⟨0, Nat.zero_le _, rfl, rfl, Only.refl _ _, hf, fun i hi => absurd hi (by omega), fun i _ hi => hc i hi⟩
  case round =>
    obtain ⟨k, hk, rfl, rfl, ho, hfr, hd, hu⟩ := hrel
    have HO : Hid (Only g w wr) := ho
    have HF : Hid (∀ i, wr.frozen? ⟨g, i, none⟩ = false) := hfr
    have HD : Hid (∀ i, i < k → wr.cell? ⟨g, i, none⟩ = some (.int .u8 (tz (Z i)))) := hd
    have HU : Hid (∀ i, k ≤ i → i < n → wr.cell? ⟨g, i, none⟩ = some (.int .u8 (Z i))) := hu
    clear ho hfr hd hu hc hf
    by_cases hkn : k < n
    · have c1 := HU.out k (Nat.le_refl _) hkn
      have f1 := HF.out k
      obtain ⟨b1, b2⟩ := hb k hkn
      have i1 : (k : Int) < (n : Int) := by omega
      go_wp2
      go_roundg (n - (k + 1))
      case measure => omega
      case rel =>
        refine ⟨k + 1, by omega, rfl, by go_num, HO.out.setCell _ _, fun i => by rw [World.frozen?_setCell]; exact HF.out i, fun i hi => ?_, fun i h1 h2 => ?_⟩
        · by_cases e : i = k
          · subst e
            exact World.cell?_setCell_same _ _ _ c1
          · rw [World.cell?_setCell_other _ _ _ _ (fun h => e (by simpa using (congrArg Addr.off h).symm))]
            exact HD.out i (by omega)
        · rw [World.cell?_setCell_other _ _ _ _ (fun h => by have h' : k = i := congrArg Addr.off h; omega)]
          exact HU.out i (by omega) h2
    · have : k = n := by omega
      subst this
      go_wp2
      go_end0
      exact ⟨rfl, HO.out, HD.out⟩

end Go.Proofs.YtglnjacaeefddaaDoor
