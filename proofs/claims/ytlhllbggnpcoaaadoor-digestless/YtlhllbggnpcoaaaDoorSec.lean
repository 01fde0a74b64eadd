import Derived.Test.YtlhllbggnpcoaaaDoorAcc
import Derived.Test.YtlhllbggnpcoaaaDoorApp
/-
  The laws' own Secret.
-/
namespace Go.Proofs.YtlhllbggnpcoaaaDoor
open Go.RowKit

/-- 32 bytes made of any -/
def secf (n : Nat) (Y : Nat → Nat) (i : Nat) : Nat := if i < n then Y i else 0
theorem secf_lt {n : Nat} {Y : Nat → Nat} (h : ∀ i, Y i < 256) (i : Nat) : secf n Y i < 256 := by
  unfold secf
  split
  · exact h i
  · decide
structure Sc (w wr : World) (n : Nat) (Y : Nat → Nat) (k : Nat) (v : Value) : Prop where
  below : Below w.heap.size w wr
  own : wr.ownsRow w.heap.size 5 1 v k (vals (fun i => ((secf n Y i : Nat) : Int)) k)

set_option maxRecDepth 100000 in
set_option maxHeartbeats 1600000 in
theorem secret_any (w : World) (a : Option Addr) (b off n c : Nat) (Y : Nat → Nat) (hv : View w a b off n (fun i => (Y i : Int))) (hY : ∀ i, Y i < 256) :
    Calls Tryd.prog 7 #[.slice a n c] w fun e w' => ∃ a' g' c', e = .returned (.slice a' 32 c') ∧ 32 ≤ c' ∧ w.heap.size ≤ g' ∧ g' < w'.heap.size ∧ Vw w' a' g' 0 (lst 32 (secf n Y)) ∧ w'.ownsRow w.heap.size 5 1 (.slice a' 32 c') 32 (vals (fun i => ((secf n Y i : Nat) : Int)) 32) ∧ Below w.heap.size w w' := by
  have HV : Hid (View w a b off n (fun i => (Y i : Int))) := hv
  have hnl := hv.len
  have H0 : Hid (Sc w w n Y 0 (.slice none 0 0)) := ⟨Below.refl _ _, World.ownsRow_nil _ _ _ _⟩
  clear hv
  go_enter Tryd.func7, Tryd.ntmps7
  go_wp2_with fail
  go_loopg [3, 4] 32 (fun g v i wr => ∃ k : Nat, k ≤ 32 ∧ g = 32 - k ∧ i = .int .i64 k ∧ Sc w wr n Y k v)
  case atStart => exact ⟨0, by omega, rfl, rfl, H0.out⟩
  case round =>
    obtain ⟨k, hk, rfl, rfl, hR⟩ := hrel
    clear H0
    have own1 := hR.own
    have b1 := hR.below
    have s1 := b1.size
    by_cases hkn : k < 32
    · clear hR
      have HN0 : ∀ (x : Nat) (v2 : Value) (w2 : World), secf n Y k = x → w2.ownsRow w.heap.size 5 1 v2 (k + 1) (vals (fun i => ((secf n Y i : Nat) : Int)) k ++ vals (fun _ => (x : Int)) 1) → Below w.heap.size w w2 → Sc w w2 n Y (k + 1) v2 := fun x v2 w2 hx o2 b2 => ⟨b2, by rw [← vals_succ, hx]; exact o2⟩
      have HN1 : Hid (∀ (x : Nat) (v2 : Value) (w2 : World), secf n Y k = x → w2.ownsRow w.heap.size 5 1 v2 (k + 1) (vals (fun i => ((secf n Y i : Nat) : Int)) k ++ vals (fun _ => (x : Int)) 1) → Below w.heap.size w w2 → Sc w w2 n Y (k + 1) v2) := HN0
      clear HN0
      by_cases hin : k < n
      · obtain rfl := HV.out.at_ (by omega)
        have cc : wr.cell? ⟨b, off + k, none⟩ = some (.int .u8 (Y k)) := (b1.cell (p := ⟨b, off + k, none⟩) (HV.out.lt (by omega))).trans (HV.out.cell k hin)
        have hx : secf n Y k = Y k := by unfold secf; rw [if_pos hin]
        have Hx : Hid (secf n Y k = Y k) := hx
        have hy := hY k
        obtain ⟨y, hyy⟩ : ∃ y, y = Y k := ⟨_, rfl⟩
        rw [← hyy] at cc hy Hx
        have i1 : (k : Int) < (n : Int) := by omega
        clear hx hyy
        go_wp2_with (refine wpList_append_bytes (by rfl) (.tmp 18) (.tmp 20) (by rfl) w.heap.size _ k _ (by rfl) (own1.alloc _) (some ⟨wr.heap.size, 0, none⟩) wr.heap.size 0 1 1 _ (by rfl) (view_new1 wr y (by omega) (by omega)) (fun h => by cases h) (by omega) (by simp; omega) ?_)
        intro v2 w2 own2 gr2 nn2
        have HN : Hid (Sc w w2 n Y (k + 1) v2) := HN1.out y v2 w2 Hx.out own2 ((b1.alloc s1 _).trans (grown_below gr2 (own1.alloc _) (Nat.le_refl _) (by simp; omega)))
        clear own1 own2 gr2 nn2 b1 s1 HN1
        go_wp2_with fail
        go_roundg (32 - (k + 1))
        case measure => omega
        case rel => exact ⟨k + 1, by omega, rfl, by go_num, HN.out⟩
      · have hx : secf n Y k = 0 := by unfold secf; rw [if_neg hin]
        have Hx : Hid (secf n Y k = 0) := hx
        have i1 : ¬ ((k : Int) < (n : Int)) := by omega
        clear hx
        go_wp2_with (refine wpList_append_bytes (by rfl) (.tmp 18) (.tmp 20) (by rfl) w.heap.size _ k _ (by rfl) (own1.alloc _) (some ⟨wr.heap.size, 0, none⟩) wr.heap.size 0 1 1 _ (by rfl) (view_new1 wr 0 (by decide) (by decide)) (fun h => by cases h) (by omega) (by simp; omega) ?_)
        intro v2 w2 own2 gr2 nn2
        have HN : Hid (Sc w w2 n Y (k + 1) v2) := HN1.out 0 v2 w2 Hx.out own2 ((b1.alloc s1 _).trans (grown_below gr2 (own1.alloc _) (Nat.le_refl _) (by simp; omega)))
        clear own1 own2 gr2 nn2 b1 s1 HN1
        go_wp2_with fail
        go_roundg (32 - (k + 1))
        case measure => omega
        case rel => exact ⟨k + 1, by omega, rfl, by go_num, HN.out⟩
    · have : k = 32 := by omega
      subst this
      have hb : ∀ i, i < 32 → 0 ≤ ((secf n Y i : Nat) : Int) ∧ ((secf n Y i : Nat) : Int) ≤ 255 := fun i _ => by have := secf_lt (n := n) hY i; omega
      rcases own1.2 with ⟨rfl, h0⟩ | ⟨g, cap, cur, rfl, hbg, hgg, hnc, _⟩
      · omega
      · have hgl : g < wr.heap.size := (Array.getElem?_eq_some_iff.1 hgg).1
        have hvw : Vw wr (some ⟨g, 0, none⟩) g 0 (lst 32 (secf n Y)) := by
          refine vw_of ⟨fun _ => rfl, fun i hi => ?_, hb, by decide⟩
          have := own1.cells (g := g) rfl i (.int .u8 ((secf n Y i : Nat) : Int)) (by unfold vals; rw [List.getElem?_map, List.getElem?_range hi]; rfl)
          rw [addr0] at this
          rw [Nat.zero_add]
          exact this
        have HF : Hid (32 ≤ cap ∧ w.heap.size ≤ g ∧ g < wr.heap.size ∧ Vw wr (some ⟨g, 0, none⟩) g 0 (lst 32 (secf n Y)) ∧ wr.ownsRow w.heap.size 5 1 (.slice (some ⟨g, 0, none⟩) 32 cap) 32 (vals (fun i => ((secf n Y i : Nat) : Int)) 32) ∧ Below w.heap.size w wr) := ⟨hnc, hbg, hgl, hvw, own1, b1⟩
        clear hR own1 b1 s1 hb hgg hvw
        go_wp2_with fail
        go_ret
        exact ⟨_, g, cap, rfl, HF.out⟩
end Go.Proofs.YtlhllbggnpcoaaaDoor
