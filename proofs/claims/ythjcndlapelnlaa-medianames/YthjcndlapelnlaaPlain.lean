/-
  Plain facts on rows of bytes, told by the index: what two have in common, which stands first. No program.
-/
namespace Go.Proofs.Ythjcndlapelnlaa

/-- how many of the first k are the same from the beginning on -/
def com (Z Y : Nat → Int) : Nat → Nat
  | 0 => 0
  | k + 1 => if com Z Y k = k ∧ Z k = Y k then k + 1 else com Z Y k

theorem com_le (Z Y : Nat → Int) (k : Nat) : com Z Y k ≤ k := by
  induction k with
  | zero => simp [com]
  | succ k ih => simp only [com]; split <;> omega

theorem com_same (Z Y : Nat → Int) (k i : Nat) (h : i < com Z Y k) : Z i = Y i := by
  induction k with
  | zero => simp [com] at h
  | succ k ih =>
    simp only [com] at h
    split at h
    · rename_i hk
      by_cases e : i = k
      · subst e; exact hk.2
      · exact ih (by omega)
    · exact ih h

theorem com_parts (Z Y : Nat → Int) (k : Nat) (h : com Z Y k < k) : Z (com Z Y k) ≠ Y (com Z Y k) := by
  induction k with
  | zero => simp at h
  | succ k ih =>
    simp only [com] at h ⊢
    split at h
    · omega
    · rename_i hk
      rw [if_neg hk]
      have := com_le Z Y k
      by_cases e : com Z Y k = k
      · rw [e]
        intro he
        exact hk ⟨e, he⟩
      · exact ih (by omega)

/-- the one number with these marks -/
theorem com_eq (Z Y : Nat → Int) (m k : Nat) (hk : k ≤ m) (hs : ∀ i, i < k → Z i = Y i) (hp : k < m → Z k ≠ Y k) : com Z Y m = k := by
  have h1 := com_le Z Y m
  by_cases hlt : com Z Y m < k
  · exact absurd (hs _ hlt) (com_parts Z Y m (by omega))
  · by_cases hgt : k < com Z Y m
    · exact absurd (com_same Z Y m k hgt) (hp (by omega))
    · omega

theorem com_stop (Z Y : Nat → Int) (m k : Nat) (hk : k < m) (hs : ∀ i, i < k → Z i = Y i) (hp : Z k ≠ Y k) : com Z Y m = k := com_eq Z Y m k (by omega) hs (fun _ => hp)
theorem com_all (Z Y : Nat → Int) (m : Nat) (hs : ∀ i, i < m → Z i = Y i) : com Z Y m = m := com_eq Z Y m m (by omega) hs (fun h => absurd h (by omega))

theorem com_symm (Z Y : Nat → Int) (m : Nat) : com Y Z m = com Z Y m := by
  apply com_eq
  · exact com_le _ _ _
  · intro i h; exact (com_same _ _ _ _ h).symm
  · intro h e; exact com_parts _ _ _ h e.symm

/-- which stands first: -1, 0, 1 -/
def cmp (n m : Nat) (Z Y : Nat → Int) : Int :=
  if com Z Y (min n m) = n ∧ com Z Y (min n m) = m then 0
  else if com Z Y (min n m) = n then -1
  else if com Z Y (min n m) = m then 1
  else if Z (com Z Y (min n m)) < Y (com Z Y (min n m)) then -1 else 1

theorem cmp_range (n m : Nat) (Z Y : Nat → Int) : cmp n m Z Y = -1 ∨ cmp n m Z Y = 0 ∨ cmp n m Z Y = 1 := by
  unfold cmp
  split
  · simp
  · split
    · simp
    · split
      · simp
      · split <;> simp

theorem cmp_bd (n m : Nat) (Z Y : Nat → Int) : -1 ≤ cmp n m Z Y ∧ cmp n m Z Y ≤ 1 := by
  rcases cmp_range n m Z Y with h | h | h <;> omega

/-- the marks of 'ahead' -/
def Ahead (n m : Nat) (Z Y : Nat → Int) : Prop := ∃ k, k ≤ n ∧ k ≤ m ∧ (∀ i, i < k → Z i = Y i) ∧ ((k = n ∧ k < m) ∨ (k < n ∧ k < m ∧ Z k < Y k))
/-- the marks of 'the same' -/
def Alike (n m : Nat) (Z Y : Nat → Int) : Prop := n = m ∧ ∀ i, i < n → Z i = Y i

theorem cmp_neg_iff (n m : Nat) (Z Y : Nat → Int) : cmp n m Z Y = -1 ↔ Ahead n m Z Y := by
  constructor
  · intro h
    have h1 := com_le Z Y (min n m)
    refine ⟨com Z Y (min n m), by omega, by omega, fun i hi => com_same _ _ _ _ hi, ?_⟩
    unfold cmp at h
    split at h
    · omega
    · split at h
      · left; omega
      · split at h
        · omega
        · split at h
          · right; refine ⟨by omega, by omega, by assumption⟩
          · omega
  · rintro ⟨k, h1, h2, h3, h4⟩
    have e : com Z Y (min n m) = k := by
      apply com_eq _ _ _ _ (by omega) h3
      intro hk he
      rcases h4 with h4 | ⟨_, _, h4⟩
      · omega
      · omega
    unfold cmp
    rw [e]
    rcases h4 with ⟨rfl, h4⟩ | ⟨h5, h6, h7⟩
    · rw [if_neg (by omega), if_pos rfl]
    · rw [if_neg (by omega), if_neg (by omega), if_neg (by omega), if_pos h7]

theorem cmp_zero_iff (n m : Nat) (Z Y : Nat → Int) : cmp n m Z Y = 0 ↔ Alike n m Z Y := by
  constructor
  · intro h
    unfold cmp at h
    split at h
    · rename_i e
      refine ⟨by omega, fun i hi => com_same Z Y (min n m) i (by omega)⟩
    · split at h
      · omega
      · split at h
        · omega
        · split at h <;> omega
  · rintro ⟨rfl, h⟩
    unfold cmp
    have e : com Z Y (min n n) = n := by rw [Nat.min_self]; exact com_all _ _ _ h
    rw [e, if_pos ⟨rfl, rfl⟩]

theorem ahead_anti (n m : Nat) (Z Y : Nat → Int) (h : Ahead n m Z Y) (h' : Ahead m n Y Z) : False := by
  have a := (cmp_neg_iff n m Z Y).2 h
  obtain ⟨k, h1, h2, h3, h4⟩ := h
  obtain ⟨j, g1, g2, g3, g4⟩ := h'
  rcases Nat.lt_trichotomy j k with e | e | e
  · have := h3 j e
    rcases g4 with g4 | ⟨_, _, g4⟩ <;> omega
  · subst e
    rcases g4 with g4 | ⟨_, _, g4⟩ <;> rcases h4 with h4 | ⟨_, _, h4⟩ <;> omega
  · have := g3 k e
    rcases h4 with h4 | ⟨_, _, h4⟩ <;> omega

/-- of two, one is ahead, or they are the same -/
theorem cmp_pos_of (n m : Nat) (Z Y : Nat → Int) (h : cmp n m Z Y = 1) : Ahead m n Y Z := by
  have h1 := com_le Z Y (min n m)
  refine ⟨com Z Y (min n m), by omega, by omega, fun i hi => (com_same _ _ _ _ hi).symm, ?_⟩
  have hp := com_parts Z Y (min n m)
  unfold cmp at h
  split at h
  · omega
  · split at h
    · omega
    · split at h
      · left; omega
      · split at h
        · omega
        · right; refine ⟨by omega, by omega, ?_⟩
          have := hp (by omega)
          omega

theorem cmp_anti (n m : Nat) (Z Y : Nat → Int) : cmp m n Y Z = -cmp n m Z Y := by
  rcases cmp_range n m Z Y with h | h | h
  · rcases cmp_range m n Y Z with g | g | g
    · exact absurd ((cmp_neg_iff _ _ _ _).1 g) (fun x => ahead_anti _ _ _ _ ((cmp_neg_iff _ _ _ _).1 h) x)
    · obtain ⟨rfl, g'⟩ := (cmp_zero_iff _ _ _ _).1 g
      have : cmp m m Z Y = 0 := (cmp_zero_iff _ _ _ _).2 ⟨rfl, fun i hi => (g' i hi).symm⟩
      omega
    · omega
  · obtain ⟨rfl, h'⟩ := (cmp_zero_iff _ _ _ _).1 h
    have : cmp n n Y Z = 0 := (cmp_zero_iff _ _ _ _).2 ⟨rfl, fun i hi => (h' i hi).symm⟩
    omega
  · have := (cmp_neg_iff _ _ _ _).2 (cmp_pos_of _ _ _ _ h)
    omega

theorem cmp_self (n : Nat) (Z : Nat → Int) : cmp n n Z Z = 0 := (cmp_zero_iff _ _ _ _).2 ⟨rfl, fun _ _ => rfl⟩

theorem ahead_trans (n m l : Nat) (Z Y X : Nat → Int) (h : Ahead n m Z Y) (g : Ahead m l Y X) : Ahead n l Z X := by
  obtain ⟨k, h1, h2, h3, h4⟩ := h
  obtain ⟨j, g1, g2, g3, g4⟩ := g
  rcases Nat.lt_trichotomy j k with e | e | e
  · refine ⟨j, by omega, by omega, fun i hi => (h3 i (by omega)).trans (g3 i hi), ?_⟩
    have := h3 j e
    rcases g4 with g4 | ⟨_, _, g4⟩
    · omega
    · right; omega
  · subst e
    refine ⟨j, by omega, by omega, fun i hi => (h3 i (by omega)).trans (g3 i hi), ?_⟩
    rcases h4 with h4 | ⟨_, _, h4⟩ <;> rcases g4 with g4 | ⟨_, _, g4⟩ <;> omega
  · refine ⟨k, by omega, by omega, fun i hi => (h3 i (by omega)).trans (g3 i (by omega)), ?_⟩
    have := g3 k e
    rcases h4 with h4 | ⟨_, _, h4⟩ <;> omega

theorem ahead_congr (n m : Nat) (Z Z' Y Y' : Nat → Int) (h : Ahead n m Z Y) (hz : ∀ i, i < n → Z i = Z' i) (hy : ∀ i, i < m → Y i = Y' i) : Ahead n m Z' Y' := by
  obtain ⟨k, h1, h2, h3, h4⟩ := h
  refine ⟨k, h1, h2, fun i hi => (hz i (by omega)).symm.trans ((h3 i hi).trans (hy i (by omega))), ?_⟩
  rcases h4 with h4 | ⟨h5, h6, h4⟩
  · left; exact h4
  · right; have := hz k h5; have := hy k h6; omega

theorem cmp_congr (n m : Nat) (Z Z' Y Y' : Nat → Int) (hz : ∀ i, i < n → Z i = Z' i) (hy : ∀ i, i < m → Y i = Y' i) : cmp n m Z Y = cmp n m Z' Y' := by
  rcases cmp_range n m Z Y with h | h | h
  · rw [h, (cmp_neg_iff n m Z' Y').2 (ahead_congr _ _ _ _ _ _ ((cmp_neg_iff _ _ _ _).1 h) hz hy)]
  · obtain ⟨rfl, h'⟩ := (cmp_zero_iff _ _ _ _).1 h
    rw [h, (cmp_zero_iff n n Z' Y').2 ⟨rfl, fun i hi => (hz i hi).symm.trans ((h' i hi).trans (hy i hi))⟩]
  · have a := (cmp_neg_iff _ _ _ _).2 (ahead_congr _ _ _ _ _ _ (cmp_pos_of _ _ _ _ h) hy hz)
    have b := cmp_anti m n Y' Z'
    omega

/-- never: not behind, not behind, and yet behind -/
theorem cmp_trans (n m l : Nat) (Z Y X : Nat → Int) (h : cmp n m Z Y ≤ 0) (g : cmp m l Y X ≤ 0) : cmp n l Z X ≤ 0 := by
  rcases cmp_range n m Z Y with a | a | a
  · rcases cmp_range m l Y X with b | b | b
    · have := (cmp_neg_iff _ _ _ _).2 (ahead_trans _ _ _ _ _ _ ((cmp_neg_iff _ _ _ _).1 a) ((cmp_neg_iff _ _ _ _).1 b))
      omega
    · obtain ⟨rfl, b'⟩ := (cmp_zero_iff _ _ _ _).1 b
      have := cmp_congr n m Z Z X Y (fun _ _ => rfl) (fun i hi => (b' i hi).symm)
      omega
    · omega
  · obtain ⟨rfl, a'⟩ := (cmp_zero_iff _ _ _ _).1 a
    have := cmp_congr n l Z Y X X a' (fun _ _ => rfl)
    omega
  · omega

end Go.Proofs.Ythjcndlapelnlaa
