/-
  bytes.Equal.
-/
import Derived.Test.YthjcndlapelnlaaVb
namespace Go.Proofs.Ythjcndlapelnlaa
open Go.RowKit

/-! ### strings -/
def sB (s : List Nat) : ByteArray := str s.length (fun i => ((gd s i : Nat) : Int))
theorem sB_inj {s t : List Nat} (hs : ∀ x ∈ s, x < 256) (ht : ∀ x ∈ t, x < 256) (h : sB s = sB t) : s = t := by
  have h1 : (sB s).data.toList = (sB t).data.toList := by rw [h]
  unfold sB str at h1
  rw [strOfNums_data, strOfNums_data] at h1
  have hl : s.length = t.length := by
    have := congrArg List.length h1
    simpa using this
  refine ext_gd hl (fun i hi => ?_)
  have h2 : (((List.range s.length).map (fun i => ((gd s i : Nat) : Int))).map fun n => UInt8.ofNat n.toNat)[i]? = (((List.range t.length).map (fun i => ((gd t i : Nat) : Int))).map fun n => UInt8.ofNat n.toNat)[i]? := by rw [h1]
  rw [List.getElem?_map, List.getElem?_map, List.getElem?_map, List.getElem?_map, List.getElem?_range hi, List.getElem?_range (by omega)] at h2
  have h3 : UInt8.ofNat (gd s i) = UInt8.ofNat (gd t i) := by simpa using h2
  have h4 := congrArg UInt8.toNat h3
  have a1 := gd_lt hs i
  have a2 := gd_lt ht i
  rw [UInt8.toNat_ofNat', UInt8.toNat_ofNat', Nat.mod_eq_of_lt (by omega), Nat.mod_eq_of_lt (by omega)] at h4
  exact h4
theorem vb_byt {w : World} {v : Value} {s : List Nat} (h : Vb w v s) : ∀ x ∈ s, x < 256 := by
  obtain ⟨a, b, off, c, rfl, hv, -⟩ := h
  exact (vw_ok hv).2
theorem sB_list (s : List Nat) : (sB s).toList = (sB s).data.toList := ByteArray.toList_eq _
theorem sB_ne {s t : List Nat} (hs : ∀ x ∈ s, x < 256) (ht : ∀ x ∈ t, x < 256) (h : s ≠ t) : sB s ≠ sB t ∧ ((sB s).toList == (sB t).toList) = false ∧ (sB s == sB t) = false := by
  have h1 : sB s ≠ sB t := fun e => h (sB_inj hs ht e)
  have h2 : ((sB s).toList == (sB t).toList) = false := by
    apply beq_eq_false_iff_ne.2
    intro e
    rw [sB_list, sB_list] at e
    exact h1 (ByteArray.ext (by rw [← Array.toList_inj]; exact e))
  exact ⟨h1, h2, by rw [beq_toListBytes]; exact h2⟩
theorem beq_sB {s t : List Nat} (hs : ∀ x ∈ s, x < 256) (ht : ∀ x ∈ t, x < 256) : (sB s == sB t) = decide (s = t) ∧ ((sB s).toList == (sB t).toList) = decide (s = t) ∧ decide (sB s = sB t) = decide (s = t) := by
  by_cases h : s = t
  · subst h
    rw [decide_eq_true rfl]
    exact ⟨by rw [beq_toListBytes]; exact beq_self_eq_true _, beq_self_eq_true _, decide_eq_true rfl⟩
  · obtain ⟨h1, h2, h3⟩ := sB_ne hs ht h
    rw [decide_eq_false h]
    exact ⟨h3, h2, decide_eq_false h1⟩
set_option maxRecDepth 100000 in
set_option maxHeartbeats 800000 in
theorem bEqual_any {w : World} {a a' : Option Addr} {b off b' off' c c' : Nat} {s t : List Nat} (h : Vw w a b off s) (h' : Vw w a' b' off' t) :
    Calls Try.prog 66 #[.slice a s.length c, .slice a' t.length c'] w fun e w' => e = .returned (.bool (decide (s = t))) ∧ w' = w := by
  have hb := beq_sB (vw_ok h).2 (vw_ok h').2
  have c1 : (convert 29 9 (.slice a s.length c)).run Try.prog w = .ok (.string (sB s)) w := convert_view h c
  have c2 : (convert 29 9 (.slice a' t.length c')).run Try.prog w = .ok (.string (sB t)) w := convert_view h' c'
  have HB : Hid ((sB s == sB t) = decide (s = t) ∧ ((sB s).toList == (sB t).toList) = decide (s = t) ∧ decide (sB s = sB t) = decide (s = t)) := hb
  clear hb h h'
  generalize sB s = x at *
  generalize sB t = y at *
  generalize decide (s = t) = z at *
  generalize s.length = n at *
  generalize t.length = m at *
  go_enter Try.func66, Try.ntmps66
  go_wp2
  go_ret
  exact ⟨by show Ending.returned (.bool (x.toList == y.toList)) = _; rw [HB.out.2.1], rfl⟩
end Go.Proofs.Ythjcndlapelnlaa
