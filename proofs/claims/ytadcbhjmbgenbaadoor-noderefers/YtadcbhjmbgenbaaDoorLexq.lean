import Derived.Test.YtadcbhjmbgenbaaDoorRRotq
/-
  Strings of bytes by their order, and lists of them that rise.
-/
namespace Go.Proofs.YtadcbhjmbgenbaaDoor

/-- which of two strings stands first -/
def cmpL : List Nat → List Nat → Int
  | [], [] => 0
  | [], _ :: _ => -1
  | _ :: _, [] => 1
  | a :: x, b :: y => if a < b then -1 else if b < a then 1 else cmpL x y

theorem cmpL_self : ∀ x : List Nat, cmpL x x = 0
  | [] => rfl
  | a :: x => by simp [cmpL, cmpL_self x]
theorem cmpL_eq : ∀ {x y : List Nat}, cmpL x y = 0 → x = y
  | [], [], _ => rfl
  | [], _ :: _, h => by simp [cmpL] at h
  | _ :: _, [], h => by simp [cmpL] at h
  | a :: x, b :: y, h => by
    simp only [cmpL] at h
    split at h
    · cases h
    · split at h
      · cases h
      · have : a = b := by omega
        rw [this, cmpL_eq h]
theorem cmpL_zero {x y : List Nat} : cmpL x y = 0 ↔ x = y := ⟨cmpL_eq, fun e => by rw [e]; exact cmpL_self _⟩
theorem cmpL_neg : ∀ x y : List Nat, cmpL y x = - cmpL x y
  | [], [] => rfl
  | [], _ :: _ => rfl
  | _ :: _, [] => rfl
  | a :: x, b :: y => by
    simp only [cmpL]
    by_cases h1 : a < b
    · rw [if_pos h1, if_neg (by omega), if_pos h1]; rfl
    · by_cases h2 : b < a
      · rw [if_pos h2, if_neg h1, if_pos h2]
      · rw [if_neg h2, if_neg h1, if_neg h1, if_neg h2]; exact cmpL_neg x y
theorem cmpL_three : ∀ x y : List Nat, cmpL x y = -1 ∨ cmpL x y = 0 ∨ cmpL x y = 1
  | [], [] => by simp [cmpL]
  | [], _ :: _ => by simp [cmpL]
  | _ :: _, [] => by simp [cmpL]
  | a :: x, b :: y => by
    simp only [cmpL]
    split
    · exact Or.inl rfl
    · split
      · exact Or.inr (Or.inr rfl)
      · exact cmpL_three x y
/-- x stands ahead of y -/
def lt (x y : List Nat) : Prop := cmpL x y < 0
instance (x y : List Nat) : Decidable (lt x y) := inferInstanceAs (Decidable (cmpL x y < 0))
theorem lt_irrefl (x : List Nat) : ¬ lt x x := by unfold lt; rw [cmpL_self]; decide
theorem lt_trans : ∀ {x y z : List Nat}, lt x y → lt y z → lt x z
  | [], y, [], h, k => by
    cases y <;> simp [lt, cmpL] at h k
  | [], _, _ :: _, _, _ => by simp [lt, cmpL]
  | _ :: _, [], _, h, _ => by simp [lt, cmpL] at h
  | _ :: _, _ :: _, [], _, k => by simp [lt, cmpL] at k
  | a :: x, b :: y, c :: z, h, k => by
    unfold lt at h k ⊢
    simp only [cmpL] at h k ⊢
    split at h <;> split at k
    · rw [if_pos (by omega)]; decide
    · split at k
      · exact absurd k (by decide)
      · rw [if_pos (by omega)]; decide
    · split at h
      · exact absurd h (by decide)
      · rw [if_pos (by omega)]; decide
    · split at h
      · exact absurd h (by decide)
      · split at k
        · exact absurd k (by decide)
        · rw [if_neg (by omega), if_neg (by omega)]
          exact lt_trans (x := x) (y := y) (z := z) h k
theorem lt_asymm {x y : List Nat} (h : lt x y) : ¬ lt y x := fun k => lt_irrefl x (lt_trans h k)
theorem lt_tri (x y : List Nat) : lt x y ∨ x = y ∨ lt y x := by
  rcases cmpL_three x y with h | h | h
  · exact Or.inl (by unfold lt; omega)
  · exact Or.inr (Or.inl (cmpL_eq h))
  · refine Or.inr (Or.inr ?_)
    unfold lt
    rw [cmpL_neg, h]
    decide
theorem lt_ne {x y : List Nat} (h : lt x y) : x ≠ y := fun e => lt_irrefl y (e ▸ h)
theorem cmpL_lt {x y : List Nat} (h : lt x y) : cmpL x y = -1 := by
  rcases cmpL_three x y with e | e | e
  · exact e
  · exact absurd h (by unfold lt; omega)
  · exact absurd h (by unfold lt; omega)
theorem cmpL_gt {x y : List Nat} (h : lt y x) : cmpL x y = 1 := by rw [cmpL_neg, cmpL_lt h]; rfl

/-- a list that rises -/
abbrev Ris (L : List (List Nat)) : Prop := L.Pairwise lt

/-- a string into a list that rises, once -/
def ins (s : List Nat) : List (List Nat) → List (List Nat)
  | [] => [s]
  | x :: r => if cmpL s x < 0 then s :: x :: r else if cmpL s x = 0 then x :: r else x :: ins s r

theorem ins_cons (s x : List Nat) (r : List (List Nat)) : ins s (x :: r) = if cmpL s x < 0 then s :: x :: r else if cmpL s x = 0 then x :: r else x :: ins s r := rfl
theorem mem_ins {s x : List Nat} : ∀ {L : List (List Nat)}, x ∈ ins s L ↔ x = s ∨ x ∈ L
  | [] => by simp [ins]
  | y :: r => by
    unfold ins
    split
    · simp
    · split
      · rename_i _ h
        have := cmpL_eq h
        subst this
        simp
      · simp only [List.mem_cons, mem_ins (L := r)]
        constructor
        · rintro (h | h | h) <;> simp [h]
        · rintro (h | h | h) <;> simp [h]
theorem ris_ins {s : List Nat} : ∀ {L : List (List Nat)}, Ris L → Ris (ins s L)
  | [], _ => by simp [ins]
  | y :: r, h => by
    obtain ⟨h1, h2⟩ := List.pairwise_cons.1 h
    unfold ins
    split
    · rename_i h3
      refine List.pairwise_cons.2 ⟨fun z hz => ?_, h⟩
      rcases List.mem_cons.1 hz with e | hz
      · rw [e]; exact h3
      · exact lt_trans h3 (h1 z hz)
    · split
      · exact h
      · rename_i h3 h4
        refine List.pairwise_cons.2 ⟨fun z hz => ?_, ris_ins h2⟩
        rcases mem_ins.1 hz with e | hz
        · rw [e]
          rcases lt_tri s y with k | k | k
          · exact absurd k h3
          · exact absurd (cmpL_zero.2 k) h4
          · exact k
        · exact h1 z hz
theorem ins_mem {s : List Nat} : ∀ {L : List (List Nat)}, Ris L → s ∈ L → ins s L = L
  | [], _, h => by simp at h
  | y :: r, hr, h => by
    obtain ⟨h1, h2⟩ := List.pairwise_cons.1 hr
    unfold ins
    rcases List.mem_cons.1 h with e | h
    · subst e
      rw [cmpL_self]
      rfl
    · have := h1 s h
      have e := cmpL_gt this
      rw [e, if_neg (by decide), if_neg (by decide), ins_mem h2 h]
theorem ins_length {s : List Nat} : ∀ {L : List (List Nat)}, s ∉ L → (ins s L).length = L.length + 1
  | [], _ => rfl
  | y :: r, h => by
    unfold ins
    split
    · simp
    · split
      · rename_i h3
        exact absurd (cmpL_eq h3) (fun e => h (by simp [e]))
      · have k := ins_length (s := s) (L := r) (fun k => h (List.mem_cons_of_mem _ k))
        simp [k]
/-- how many stand ahead of s -/
def pos (s : List Nat) (L : List (List Nat)) : Nat := L.countP (fun x => decide (lt x s))
theorem pos_le (s : List Nat) (L : List (List Nat)) : pos s L ≤ L.length := List.countP_le_length
theorem ins_at {s : List Nat} : ∀ {L : List (List Nat)}, Ris L → s ∉ L → ins s L = L.take (pos s L) ++ s :: L.drop (pos s L)
  | [], _, _ => rfl
  | y :: r, hr, h => by
    obtain ⟨h1, h2⟩ := List.pairwise_cons.1 hr
    unfold ins
    by_cases k : lt y s
    · have e := cmpL_gt k
      rw [e, if_neg (by decide), if_neg (by decide)]
      have ep : pos s (y :: r) = pos s r + 1 := by simp [pos, k]
      rw [ep, List.take_succ_cons, List.drop_succ_cons, ins_at h2 (fun q => h (by simp [q]))]
      rfl
    · have k2 : lt s y := by
        rcases lt_tri s y with q | q | q
        · exact q
        · exact absurd (by simp [q]) h
        · exact absurd q k
      have e := cmpL_lt k2
      rw [e, if_pos (by decide)]
      have ep : pos s (y :: r) = 0 := by
        unfold pos
        rw [List.countP_eq_zero]
        intro z hz
        rcases List.mem_cons.1 hz with e | hz
        · rw [e]; simpa using k
        · simpa using lt_asymm (lt_trans k2 (h1 z hz))
      rw [ep]
      rfl
theorem filter_ins {s : List Nat} (p : List Nat → Bool) : ∀ {L : List (List Nat)}, Ris L → (ins s L).filter p = if p s = true then ins s (L.filter p) else L.filter p
  | [], _ => by
    by_cases h : p s = true <;> simp [ins, h]
  | y :: r, hr => by
    obtain ⟨h1, h2⟩ := List.pairwise_cons.1 hr
    rw [ins_cons]
    by_cases k : lt s y
    · have e := cmpL_lt k
      rw [e, if_pos (by decide), List.filter_cons]
      by_cases ps : p s = true
      · rw [if_pos ps, if_pos ps]
        cases hf : (y :: r).filter p with
        | nil => rfl
        | cons z t =>
          have hz : z ∈ (y :: r).filter p := by rw [hf]; simp
          have hz2 := (List.mem_filter.1 hz).1
          have : lt s z := by
            rcases List.mem_cons.1 hz2 with e | hz2
            · rw [e]; exact k
            · exact lt_trans k (h1 z hz2)
          rw [ins_cons, cmpL_lt this, if_pos (by decide)]
      · rw [if_neg ps, if_neg ps]
    · by_cases e0 : cmpL s y = 0
      · rw [e0, if_neg (by decide), if_pos rfl]
        have := cmpL_eq e0
        subst this
        by_cases ps : p s = true
        · rw [if_pos ps, ins_mem (hr.sublist List.filter_sublist) (List.mem_filter.2 ⟨by simp, ps⟩)]
        · rw [if_neg ps]
      · have k2 : lt y s := by
          rcases lt_tri s y with q | q | q
          · exact absurd q k
          · exact absurd (cmpL_zero.2 q) e0
          · exact q
        rw [cmpL_gt k2, if_neg (by decide), if_neg (by decide), List.filter_cons, filter_ins p h2]
        by_cases py : p y = true
        · rw [if_pos py, List.filter_cons, if_pos py]
          by_cases ps : p s = true
          · rw [if_pos ps, if_pos ps]
            rw [ins_cons, cmpL_gt k2, if_neg (by decide), if_neg (by decide)]
          · rw [if_neg ps, if_neg ps]
        · rw [if_neg py, List.filter_cons, if_neg py]
theorem pos_get {s : List Nat} {L : List (List Nat)} (hr : Ris L) (i : Nat) (hi : i < L.length) : i < pos s L ↔ lt L[i] s := by
  induction L generalizing i with
  | nil => simp at hi
  | cons y r ih =>
    obtain ⟨h1, h2⟩ := List.pairwise_cons.1 hr
    by_cases k : lt y s
    · have ep : pos s (y :: r) = pos s r + 1 := by simp [pos, k]
      rw [ep]
      cases i with
      | zero => simpa using k
      | succ i => simpa using ih h2 i (by simpa using hi)
    · have ep : pos s (y :: r) = 0 := by
        unfold pos
        rw [List.countP_eq_zero]
        intro z hz
        rcases List.mem_cons.1 hz with e | hz
        · rw [e]; simpa using k
        · intro q
          exact k (lt_trans (h1 z hz) (by simpa using q))
      rw [ep]
      constructor
      · intro h; omega
      · intro h
        cases i with
        | zero => exact absurd h k
        | succ i => exact absurd (lt_trans (h1 _ (List.getElem_mem (by simpa using hi))) h) k
theorem pos_found {s : List Nat} {L : List (List Nat)} (hr : Ris L) : s ∈ L ↔ ∃ h : pos s L < L.length, L[pos s L] = s := by
  constructor
  · intro h
    obtain ⟨i, hi, e⟩ := List.getElem_of_mem h
    have h1 : ¬ i < pos s L := fun k => lt_irrefl s (by have := (pos_get hr i hi).1 k; rwa [e] at this)
    have h2 : ¬ pos s L < i := fun k => by
      have hp : pos s L < L.length := by omega
      have q : lt L[pos s L] L[i] := (List.pairwise_iff_getElem.1 hr) _ _ hp hi k
      rw [e] at q
      have := (pos_get hr _ hp).2 q
      omega
    have : i = pos s L := by omega
    subst this
    exact ⟨hi, e⟩
  · rintro ⟨h, e⟩
    rw [← e]
    exact List.getElem_mem h
end Go.Proofs.YtadcbhjmbgenbaaDoor
