/-
  The law's helpers: a copy with marks, whether it is as it was, written over.
-/
import Derived.Test.YtleabfmlokjllaaDoorRefC
namespace Go.Proofs.YtleabfmlokjllaaDoor
open Go.RowKit

/-- bytes with four marks behind them -/
def mk4 (i : Nat) : Nat := if i % 2 = 0 then 85 else 170
theorem mk4_lt (i : Nat) : mk4 i < 256 := by unfold mk4; split <;> omega
theorem view_new4 (w : World) : View (w.alloc (.cells #[.int .u8 85, .int .u8 170, .int .u8 85, .int .u8 170] 5)) (some ⟨w.heap.size, 0, none⟩) w.heap.size 0 4 (fun i => (mk4 i : Int)) := by
  refine ⟨fun _ => rfl, fun i hi => ?_, fun i _ => by have := mk4_lt i; omega, by omega⟩
  rw [cell_of_row _ _ _ _ 5 _ (heap_alloc_new w _)]
  match i, hi with
  | 0, _ => rfl
  | 1, _ => rfl
  | 2, _ => rfl
  | 3, _ => rfl

set_option maxRecDepth 100000 in
set_option maxHeartbeats 1600000 in
theorem roomy_any (w : World) (a : Option Addr) (b off n c : Nat) (Z : Nat → Nat) (hv : View w a b off n (fun i => (Z i : Int))) (hnil : a = none → c = 0) (hn : n ≤ 1099511627776) :
    Calls Tryd.prog 22 #[.slice a n c] w fun e w' => ∃ g cap, e = .returned (.slice (some ⟨g, 0, none⟩) n cap) ∧
      w'.ownsRow w.heap.size 5 1 (.slice (some ⟨g, 0, none⟩) (n + 4) cap) (n + 4) (vals (fun i => ((cat n Z mk4 i : Nat) : Int)) (n + 4)) ∧ n + 4 ≤ cap ∧ w.heap.size ≤ g ∧ g < w'.heap.size ∧ Below w.heap.size w w' := by
  have own0 := World.ownsRow_lit (base := w.heap.size) (e := 5) (size := 1) w #[] 0 (Nat.le_refl _) (by decide) rfl
  have v0 : View (w.alloc (.cells #[] 5)) a b off n (fun i => (Z i : Int)) := hv.below ((Below.refl _ _).alloc (Nat.le_refl _) _)
  have HV0 : Hid (View (w.alloc (.cells #[] 5)) a b off n (fun i => (Z i : Int))) := v0
  clear hv v0
  go_enter Tryd.func22, Tryd.ntmps22
  go_wp2_with (refine wpList_append_bytes (by rfl) (.tmp 4) (.tmp 5) (by rfl) w.heap.size _ 0 [] (by rfl) own0 a b off n c _ (by rfl) HV0.out hnil (by omega) (by simp) ?_)
  intro v1 w1 own1 gr1 nn1
  have b1 : Below w.heap.size w w1 := ((Below.refl _ _).alloc (Nat.le_refl _) _).trans (grown_below gr1 own0 (Nat.le_refl _) (by simp))
  replace own1 : w1.ownsRow w.heap.size 5 1 v1 n (vals (fun i => (Z i : Int)) n) := by simpa using own1
  clear own0 gr1 nn1 HV0
  have s1 := b1.size
  go_wp2_with (refine wpList_append_bytes (by rfl) (.tmp 7) (.tmp 8) (by rfl) w.heap.size _ n _ (by rfl) (own1.alloc _) (some ⟨w1.heap.size, 0, none⟩) w1.heap.size 0 4 4 _ (by rfl) (view_new4 w1) (fun h => by cases h) (by omega) (by simp; omega) ?_)
  intro v2 w2 own2 gr2 nn2
  have b2 : Below w.heap.size w w2 := (b1.alloc s1 _).trans (grown_below gr2 (own1.alloc _) (Nat.le_refl _) (by simp; omega))
  rw [vals_cat] at own2
  clear own1 gr2 nn2 b1 s1
  obtain ⟨g, cap, rfl, hcap, hB, hg⟩ := own_slice own2 (by omega)
  have q1 : (n : Int) ≤ (cap : Int) := by omega
  have q2 : (0 : Int) ≤ (n : Int) := by omega
  have HO : Hid (w2.ownsRow w.heap.size 5 1 (.slice (some ⟨g, 0, none⟩) (n + 4) cap) (n + 4) (vals (fun i => ((cat n Z mk4 i : Nat) : Int)) (n + 4)) ∧ Below w.heap.size w w2) := ⟨own2, b2⟩
  clear own2 b2
  go_wp2_with fail
  go_ret
  exact ⟨g, cap, rfl, HO.out.1, hcap, hB, hg, HO.out.2⟩

def marks : ByteArray := ⟨#[85, 170, 85, 170]⟩
theorem str_marks (n : Nat) (Z : Nat → Nat) : str n (fun i => (Z i : Int)) ++ marks = str (n + 4) (fun i => ((cat n Z mk4 i : Nat) : Int)) := by
  have e : marks = strOfNums [85, 170, 85, 170] := by kernel_rfl
  rw [e]
  unfold str strOfNums
  have h : (List.range (n + 4)).map (fun i => ((cat n Z mk4 i : Nat) : Int)) = (List.range n).map (fun i => (Z i : Int)) ++ [85, 170, 85, 170] := by
    rw [show n + 4 = n + 1 + 1 + 1 + 1 by omega, List.range_succ, List.range_succ, List.range_succ, List.range_succ]
    simp only [List.map_append, List.map_cons, List.map_nil, List.append_assoc, List.cons_append, List.nil_append]
    congr 1
    · refine List.map_congr_left (fun i hi => ?_)
      have : i < n := by simpa using hi
      unfold cat
      rw [if_pos this]
    · have c0 : cat n Z mk4 n = 85 := by unfold cat; rw [if_neg (by omega), Nat.sub_self]; rfl
      have c1 : cat n Z mk4 (n + 1) = 170 := by unfold cat; rw [if_neg (by omega), Nat.add_sub_cancel_left]; rfl
      have c2 : cat n Z mk4 (n + 2) = 85 := by unfold cat; rw [if_neg (by omega), Nat.add_sub_cancel_left]; rfl
      have c3 : cat n Z mk4 (n + 3) = 170 := by unfold cat; rw [if_neg (by omega), Nat.add_sub_cancel_left]; rfl
      rw [c0, c1, c2, c3]
      rfl
  rw [h, List.map_append]
  apply ByteArray.ext
  simp

set_option maxRecDepth 100000 in
set_option maxHeartbeats 1600000 in
theorem aswas_yes (w : World) (g cap : Nat) (a : Option Addr) (b off n c : Nat) (Z : Nat → Nat) (hv : View w a b off n (fun i => (Z i : Int))) (hg : View w (some ⟨g, 0, none⟩) g 0 (n + 4) (fun i => ((cat n Z mk4 i : Nat) : Int))) (hcap : n + 4 ≤ cap) :
    Calls Tryd.prog 24 #[.slice (some ⟨g, 0, none⟩) n cap, .slice a n c] w fun e w' => e = .returned (.bool true) ∧ ∃ q, w' = w.drewN q := by
  have ln := hg.len
  have k1 : (0 : Int) ≤ (n : Int) + 4 := by omega
  have k2 : (n : Int) + 4 ≤ (cap : Int) := by omega
  have k4 : IntKind.i64.wrap ((n : Int) + 4) = (n : Int) + 4 := by rw [IntKind.wrap_i64]; omega
  have k3 : ((n : Int) + 4).toNat = n + 4 := by omega
  have cv1 := fun q => convert_view (hg.drewN q) cap
  have cv2 := fun q => convert_view (hv.drewN q) c
  have sl := sliceAt_upto (some ⟨g, 0, none⟩) n cap (n + 4) hcap
  rw [show (((n + 4 : Nat)) : Int) = (n : Int) + 4 by omega] at sl
  have sm := str_marks n Z
  unfold marks at sm
  simp only [← sm] at cv1
  obtain ⟨s2, hs2⟩ : ∃ s, s = str n (fun i => (Z i : Int)) := ⟨_, rfl⟩
  simp only [← hs2] at cv1 cv2
  have k5 : s2.size = n := by rw [hs2]; unfold str; rw [strOfNums_size]; simp
  have k6 : s2.size + (ByteArray.mk #[85, 170, 85, 170]).size ≤ 9223372036854775807 := by rw [k5, show (ByteArray.mk #[85, 170, 85, 170]).size = 4 from rfl]; omega
  have k7 : s2.size + 4 ≤ 9223372036854775807 := k6
  clear k5
  clear hv hg sm hs2
  go_enter Tryd.func24, Tryd.ntmps24
  go_wp2_with fail
  go_quiet (fail)
  go_wp2_with fail
  go_ret
  exact ⟨rfl, _, rfl⟩

set_option maxRecDepth 100000 in
set_option maxHeartbeats 1600000 in
theorem over_any (w : World) (g n cap N : Nat) (f : Nat → Value) (F : Nat → Nat) (hr : w.rowIs g 5 N f) (hf : ∀ i, i < n → f i = .int .u8 (F i)) (hF : ∀ i, i < n → F i < 256) (hn : n ≤ N) (hnn : n ≤ 281474976710656) :
    Calls Tryd.prog 25 #[.slice (some ⟨g, 0, none⟩) n cap] w fun e w' => e = .returned (.tuple #[]) ∧ Save g w w' := by
  have HR0 : Hid (w.rowIs g 5 N f) := hr
  clear hr
  go_enter Tryd.func25, Tryd.ntmps25
  go_wp2_with fail
  go_loopg [5] n (fun gg i wr => ∃ k : Nat, k ≤ n ∧ gg = n - k ∧ i = .int .i64 k ∧ Save g w wr ∧ ∃ G : Nat → Value, wr.rowIs g 5 N G ∧ ∀ i, k ≤ i → G i = f i)
  case atStart => exact ⟨0, by omega, rfl, rfl, Save.refl _ _, f, HR0.out, fun _ _ => rfl⟩
  case round =>
    obtain ⟨k, hk, rfl, rfl, hs, G, hR, hG⟩ := hrel
    clear HR0
    by_cases hkn : k < n
    · have cc := hR.cell (i := k) (by omega)
      have fz := hR.frozen k
      rw [hG k (Nat.le_refl _), hf k hkn] at cc
      have hz := hF k hkn
      obtain ⟨z, hze⟩ : ∃ z, z = F k := ⟨_, rfl⟩
      rw [← hze] at cc hz
      have hxx := u8_xor_nat z 60 hz (by decide)
      rw [show ((60 : Nat) : Int) = (60 : Int) from rfl] at hxx
      have HR : Hid (wr.rowIs g 5 N G ∧ Save g w wr ∧ ∀ i, k ≤ i → G i = f i) := ⟨hR, hs, hG⟩
      clear hR hs hG hze
      go_wp2_with fail
      go_roundg (n - (k + 1))
      case measure => omega
      case rel =>
        refine ⟨k + 1, by omega, rfl, by go_num, HR.out.2.1.setCell _ _, _, HR.out.1.set k _, fun i hi => ?_⟩
        show (if i = k then _ else G i) = f i
        rw [if_neg (by omega), HR.out.2.2 i (by omega)]
    · have k1 : n ≤ k := by omega
      have HS : Hid (Save g w wr) := hs
      clear hs hR hG
      go_wp2_with fail
      go_end0
      exact ⟨rfl, HS.out⟩
end Go.Proofs.YtleabfmlokjllaaDoor
