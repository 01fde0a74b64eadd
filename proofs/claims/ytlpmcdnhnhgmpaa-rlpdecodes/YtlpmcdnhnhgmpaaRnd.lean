/-
  RlpRound: the law.
-/
import Derived.Test.YtlpmcdnhnhgmpaaLim
import Derived.Test.YtlpmcdnhnhgmpaaItx
import Derived.Test.YtlpmcdnhnhgmpaaSpl
namespace Go.Proofs.Ytlpmcdnhnhgmpaa
open Go.RowKit

theorem rdL_bad_le {s : List Nat} {d : Nat} (hs : ∀ x ∈ s, x < 256) (ih : ∀ p e q c, p ≤ e → e ≤ s.length → rd s d p e = .bad q c → q ≤ e) :
    ∀ (n a z : Nat) (acc : List It) (q c : Nat), a ≤ z → z ≤ s.length → rdL (rd s d) n a z acc = .bad q c → q ≤ z := by
  intro n
  induction n with
  | zero => intro a z acc q c _ _ h; rw [rdL] at h; cases h
  | succ n ihn =>
    intro a z acc q c haz hz h
    rw [rdL] at h
    split at h
    · cases hr : rd s d a z with
      | bad p' c' =>
        rw [hr] at h
        injection h with h1 h2
        subst h1
        exact ih _ _ _ _ haz hz hr
      | ok y a' =>
        rw [hr] at h
        have := rd_ok hs d a z y a' hz haz hr
        exact ihn _ _ _ _ _ this.2.1 hz h
    · cases h
theorem rd_bad_le {s : List Nat} (hs : ∀ x ∈ s, x < 256) : ∀ (d p e q c : Nat), p ≤ e → e ≤ s.length → rd s d p e = .bad q c → q ≤ e := by
  intro d
  induction d with
  | zero =>
    intro p e q c hpe he h
    rw [rd_eq] at h
    split at h
    · injection h with h _; omega
    · split at h
      · cases h
      · split at h
        · cases hh : rdHead s p e (gd s p - 128) with
          | bad x => rw [hh] at h; injection h with h _; omega
          | ok x y =>
            rw [hh] at h
            dsimp only at h
            split at h
            · injection h with h _; omega
            · cases h
        · rw [if_pos rfl] at h
          injection h with h _
          omega
  | succ d ih =>
    intro p e q c hpe he h
    rw [rd_eq] at h
    split at h
    · injection h with h _; omega
    · rename_i hne
      split at h
      · cases h
      · split at h
        · cases hh : rdHead s p e (gd s p - 128) with
          | bad x => rw [hh] at h; injection h with h _; omega
          | ok x y =>
            rw [hh] at h
            dsimp only at h
            split at h
            · injection h with h _; omega
            · cases h
        · rw [if_neg (by omega)] at h
          cases hh : rdHead s p e (gd s p - 192) with
          | bad x => rw [hh] at h; injection h with h _; omega
          | ok x y =>
            rw [hh] at h
            dsimp only at h
            have hb := gd_lt hs p
            have hk := rdHead_ok (base := 192) hs he (by omega) (by omega) (by omega) hh
            have := rdL_bad_le hs (fun p e q c h1 h2 h3 => ih p e q c h1 h2 h3) _ _ _ _ _ _ hk.2.1 (by omega) (by simpa using h)
            omega
/-- what Decode answers of bytes -/
theorem dec_cases {s : List Nat} (hs : ∀ x ∈ s, x < 256) : (decE s ≠ 0 ∧ decX s = .mk false [] [] ∧ decP s ≤ s.length) ∨ (decE s = 0 ∧ decP s = 0 ∧ encE (decX s) = 0 ∧ enc (decX s) = s) := by
  unfold decE decX decP
  cases hd : dec s with
  | bad p e =>
    left
    dsimp only
    unfold dec at hd
    split at hd
    · injection hd with h1 h2
      subst h1
      subst h2
      exact ⟨by omega, rfl, by omega⟩
    · cases hr : rd s 80 0 s.length with
      | bad q c =>
        rw [hr] at hd
        injection hd with h1 h2
        subst h1
        subst h2
        have := rd_bad _ _ _ _ _ hr
        exact ⟨by omega, rfl, rd_bad_le hs 80 0 s.length _ _ (by omega) (Nat.le_refl _) hr⟩
      | ok x z =>
        rw [hr] at hd
        dsimp only at hd
        split at hd
        · injection hd with h1 h2
          subst h1
          subst h2
          exact ⟨by omega, rfl, by omega⟩
        · cases hd
  | ok x =>
    right
    dsimp only
    unfold dec at hd
    split at hd
    · cases hd
    · rename_i hlen
      cases hr : rd s 80 0 s.length with
      | bad q c => rw [hr] at hd; cases hd
      | ok x' z =>
        rw [hr] at hd
        dsimp only at hd
        split at hd
        · cases hd
        · rename_i hz
          injection hd with h1
          subst h1
          obtain ⟨k1, k2, k3, k4, k5⟩ := rd_ok hs 80 0 s.length x' z (Nat.le_refl _) (by omega) hr
          have e1 : z = s.length := by omega
          subst e1
          rw [cut_all] at k5
          have hE : encE x' = 0 := by unfold encE; rw [if_neg (by omega), if_neg (by simp [k3]), if_neg (by rw [k5]; omega)]
          exact ⟨rfl, rfl, hE, by unfold enc; rw [if_pos hE, k5]⟩
/-- what Encode has answered comes back -/
theorem enc_back {x : It} (h : encE x = 0) : dec (enc x) = .ok x ∧ dp x ≤ 80 ∧ may x = true ∧ (form x).length ≤ 1048576 ∧ enc x = form x := by
  have he : enc x = form x := by unfold enc; rw [if_pos h]
  unfold encE at h
  split at h
  · omega
  · split at h
    · omega
    · split at h
      · omega
      · rename_i h1 h2 h3
        have hm : may x = true := by cases hq : may x <;> simp_all
        exact ⟨by rw [he]; exact dec_form hm (by omega) (by omega), by omega, hm, by omega, he⟩
end Go.Proofs.Ytlpmcdnhnhgmpaa
