import Derived.Test.YtpmdjopojcgpeaaGreatDoorQSchedq
/-
  Strings of bytes by their order, and lists of them that rise.
-/
namespace Go.Proofs.YtpmdjopojcgpeaaGreatDoor.Dg

/-- which of two strings stands first -/
def cmpL : List Nat → List Nat → Int
  | [], [] => 0
  | [], _ :: _ => -1
  | _ :: _, [] => 1
  | a :: x, b :: y => if a < b then -1 else if b < a then 1 else cmpL x y

theorem cmpL_self : ∀ x : List Nat, cmpL x x = 0
  | [] => rfl
  | a :: x => by simp [cmpL, cmpL_self x]
theorem cmpL_eq : ∀ {x y : List Nat}, cmpL x y = 0 → x = y
  | [], [], _ => rfl
  | [], _ :: _, h => by simp [cmpL] at h
  | _ :: _, [], h => by simp [cmpL] at h
  | a :: x, b :: y, h => by
    simp only [cmpL] at h
    split at h
    · cases h
    · split at h
      · cases h
      · have : a = b := by omega
        rw [this, cmpL_eq h]
theorem cmpL_zero {x y : List Nat} : cmpL x y = 0 ↔ x = y := ⟨cmpL_eq, fun e => by rw [e]; exact cmpL_self _⟩
theorem cmpL_neg : ∀ x y : List Nat, cmpL y x = - cmpL x y
  | [], [] => rfl
  | [], _ :: _ => rfl
  | _ :: _, [] => rfl
  | a :: x, b :: y => by
    simp only [cmpL]
    by_cases h1 : a < b
    · rw [if_pos h1, if_neg (by omega), if_pos h1]; rfl
    · by_cases h2 : b < a
      · rw [if_pos h2, if_neg h1, if_pos h2]
      · rw [if_neg h2, if_neg h1, if_neg h1, if_neg h2]; exact cmpL_neg x y
theorem cmpL_three : ∀ x y : List Nat, cmpL x y = -1 ∨ cmpL x y = 0 ∨ cmpL x y = 1
  | [], [] => by simp [cmpL]
  | [], _ :: _ => by simp [cmpL]
  | _ :: _, [] => by simp [cmpL]
  | a :: x, b :: y => by
    simp only [cmpL]
    split
    · exact Or.inl rfl
    · split
      · exact Or.inr (Or.inr rfl)
      · exact cmpL_three x y
/-- x stands ahead of y -/
def lt (x y : List Nat) : Prop := cmpL x y < 0
instance (x y : List Nat) : Decidable (lt x y) := inferInstanceAs (Decidable (cmpL x y < 0))
theorem lt_irrefl (x : List Nat) : ¬ lt x x := by unfold lt; rw [cmpL_self]; decide
theorem lt_trans : ∀ {x y z : List Nat}, lt x y → lt y z → lt x z
  | [], y, [], h, k => by
    cases y <;> simp [lt, cmpL] at h k
  | [], _, _ :: _, _, _ => by simp [lt, cmpL]
  | _ :: _, [], _, h, _ => by simp [lt, cmpL] at h
  | _ :: _, _ :: _, [], _, k => by simp [lt, cmpL] at k
  | a :: x, b :: y, c :: z, h, k => by
    unfold lt at h k ⊢
    simp only [cmpL] at h k ⊢
    split at h <;> split at k
    · rw [if_pos (by omega)]; decide
    · split at k
      · exact absurd k (by decide)
      · rw [if_pos (by omega)]; decide
    · split at h
      · exact absurd h (by decide)
      · rw [if_pos (by omega)]; decide
    · split at h
      · exact absurd h (by decide)
      · split at k
        · exact absurd k (by decide)
        · rw [if_neg (by omega), if_neg (by omega)]
          exact lt_trans (x := x) (y := y) (z := z) h k
theorem lt_asymm {x y : List Nat} (h : lt x y) : ¬ lt y x := fun k => lt_irrefl x (lt_trans h k)
theorem lt_tri (x y : List Nat) : lt x y ∨ x = y ∨ lt y x := by
  rcases cmpL_three x y with h | h | h
  · exact Or.inl (by unfold lt; omega)
  · exact Or.inr (Or.inl (cmpL_eq h))
  · refine Or.inr (Or.inr ?_)
    unfold lt
    rw [cmpL_neg, h]
    decide
theorem lt_ne {x y : List Nat} (h : lt x y) : x ≠ y := fun e => lt_irrefl y (e ▸ h)
theorem cmpL_lt {x y : List Nat} (h : lt x y) : cmpL x y = -1 := by
  rcases cmpL_three x y with e | e | e
  · exact e
  · exact absurd h (by unfold lt; omega)
  · exact absurd h (by unfold lt; omega)
theorem cmpL_gt {x y : List Nat} (h : lt y x) : cmpL x y = 1 := by rw [cmpL_neg, cmpL_lt h]; rfl

/-- a list that rises -/
abbrev Ris (L : List (List Nat)) : Prop := L.Pairwise lt

/-- a string into a list that rises, once -/
def ins (s : List Nat) : List (List Nat) → List (List Nat)
  | [] => [s]
  | x :: r => if cmpL s x < 0 then s :: x :: r else if cmpL s x = 0 then x :: r else x :: ins s r

theorem ins_cons (s x : List Nat) (r : List (List Nat)) : ins s (x :: r) = if cmpL s x < 0 then s :: x :: r else if cmpL s x = 0 then x :: r else x :: ins s r := rfl
theorem mem_ins {s x : List Nat} : ∀ {L : List (List Nat)}, x ∈ ins s L ↔ x = s ∨ x ∈ L
  | [] => by simp [ins]
  | y :: r => by
    unfold ins
    split
    · simp
    · split
      · rename_i _ h
        have := cmpL_eq h
        subst this
        simp
      · simp only [List.mem_cons, mem_ins (L := r)]
        constructor
        · rintro (h | h | h) <;> simp [h]
        · rintro (h | h | h) <;> simp [h]
theorem ris_ins {s : List Nat} : ∀ {L : List (List Nat)}, Ris L → Ris (ins s L)
  | [], _ => by simp [ins]
  | y :: r, h => by
    obtain ⟨h1, h2⟩ := List.pairwise_cons.1 h
    unfold ins
    split
    · rename_i h3
      refine List.pairwise_cons.2 ⟨fun z hz => ?_, h⟩
      rcases List.mem_cons.1 hz with e | hz
      · rw [e]; exact h3
      · exact lt_trans h3 (h1 z hz)
    · split
      · exact h
      · rename_i h3 h4
        refine List.pairwise_cons.2 ⟨fun z hz => ?_, ris_ins h2⟩
        rcases mem_ins.1 hz with e | hz
        · rw [e]
          rcases lt_tri s y with k | k | k
          · exact absurd k h3
          · exact absurd (cmpL_zero.2 k) h4
          · exact k
        · exact h1 z hz
theorem ins_mem {s : List Nat} : ∀ {L : List (List Nat)}, Ris L → s ∈ L → ins s L = L
  | [], _, h => by simp at h
  | y :: r, hr, h => by
    obtain ⟨h1, h2⟩ := List.pairwise_cons.1 hr
    unfold ins
    rcases List.mem_cons.1 h with e | h
    · subst e
      rw [cmpL_self]
      rfl
    · have := h1 s h
      have e := cmpL_gt this
      rw [e, if_neg (by decide), if_neg (by decide), ins_mem h2 h]
theorem ins_length {s : List Nat} : ∀ {L : List (List Nat)}, s ∉ L → (ins s L).length = L.length + 1
  | [], _ => rfl
  | y :: r, h => by
    unfold ins
    split
    · simp
    · split
      · rename_i h3
        exact absurd (cmpL_eq h3) (fun e => h (by simp [e]))
      · have k := ins_length (s := s) (L := r) (fun k => h (List.mem_cons_of_mem _ k))
        simp [k]
/-- how many stand ahead of s -/
def pos (s : List Nat) (L : List (List Nat)) : Nat := L.countP (fun x => decide (lt x s))
theorem pos_le (s : List Nat) (L : List (List Nat)) : pos s L ≤ L.length := List.countP_le_length
theorem ins_at {s : List Nat} : ∀ {L : List (List Nat)}, Ris L → s ∉ L → ins s L = L.take (pos s L) ++ s :: L.drop (pos s L)
  | [], _, _ => rfl
  | y :: r, hr, h => by
    obtain ⟨h1, h2⟩ := List.pairwise_cons.1 hr
    unfold ins
    by_cases k : lt y s
    · have e := cmpL_gt k
      rw [e, if_neg (by decide), if_neg (by decide)]
      have ep : pos s (y :: r) = pos s r + 1 := by simp [pos, k]
      rw [ep, List.take_succ_cons, List.drop_succ_cons, ins_at h2 (fun q => h (by simp [q]))]
      rfl
    · have k2 : lt s y := by
        rcases lt_tri s y with q | q | q
        · exact q
        · exact absurd (by simp [q]) h
        · exact absurd q k
      have e := cmpL_lt k2
      rw [e, if_pos (by decide)]
      have ep : pos s (y :: r) = 0 := by
        unfold pos
        rw [List.countP_eq_zero]
        intro z hz
        rcases List.mem_cons.1 hz with e | hz
        · rw [e]; simpa using k
        · simpa using lt_asymm (lt_trans k2 (h1 z hz))
      rw [ep]
      rfl
theorem filter_ins {s : List Nat} (p : List Nat → Bool) : ∀ {L : List (List Nat)}, Ris L → (ins s L).filter p = if p s = true then ins s (L.filter p) else L.filter p
  | [], _ => by
    by_cases h : p s = true <;> simp [ins, h]
  | y :: r, hr => by
    obtain ⟨h1, h2⟩ := List.pairwise_cons.1 hr
    rw [ins_cons]
    by_cases k : lt s y
    · have e := cmpL_lt k
      rw [e, if_pos (by decide), List.filter_cons]
      by_cases ps : p s = true
      · rw [if_pos ps, if_pos ps]
        cases hf : (y :: r).filter p with
        | nil => rfl
        | cons z t =>
          have hz : z ∈ (y :: r).filter p := by rw [hf]; simp
          have hz2 := (List.mem_filter.1 hz).1
          have : lt s z := by
            rcases List.mem_cons.1 hz2 with e | hz2
            · rw [e]; exact k
            · exact lt_trans k (h1 z hz2)
          rw [ins_cons, cmpL_lt this, if_pos (by decide)]
      · rw [if_neg ps, if_neg ps]
    · by_cases e0 : cmpL s y = 0
      · rw [e0, if_neg (by decide), if_pos rfl]
        have := cmpL_eq e0
        subst this
        by_cases ps : p s = true
        · rw [if_pos ps, ins_mem (hr.sublist List.filter_sublist) (List.mem_filter.2 ⟨by simp, ps⟩)]
        · rw [if_neg ps]
      · have k2 : lt y s := by
          rcases lt_tri s y with q | q | q
          · exact absurd q k
          · exact absurd (cmpL_zero.2 q) e0
          · exact q
        rw [cmpL_gt k2, if_neg (by decide), if_neg (by decide), List.filter_cons, filter_ins p h2]
        by_cases py : p y = true
        · rw [if_pos py, List.filter_cons, if_pos py]
          by_cases ps : p s = true
          · rw [if_pos ps, if_pos ps]
            rw [ins_cons, cmpL_gt k2, if_neg (by decide), if_neg (by decide)]
          · rw [if_neg ps, if_neg ps]
        · rw [if_neg py, List.filter_cons, if_neg py]
theorem pos_get {s : List Nat} {L : List (List Nat)} (hr : Ris L) (i : Nat) (hi : i < L.length) : i < pos s L ↔ lt L[i] s := by
  induction L generalizing i with
  | nil => simp at hi
  | cons y r ih =>
    obtain ⟨h1, h2⟩ := List.pairwise_cons.1 hr
    by_cases k : lt y s
    · have ep : pos s (y :: r) = pos s r + 1 := by simp [pos, k]
      rw [ep]
      cases i with
      | zero => simpa using k
      | succ i => simpa using ih h2 i (by simpa using hi)
    · have ep : pos s (y :: r) = 0 := by
        unfold pos
        rw [List.countP_eq_zero]
        intro z hz
        rcases List.mem_cons.1 hz with e | hz
        · rw [e]; simpa using k
        · intro q
          exact k (lt_trans (h1 z hz) (by simpa using q))
      rw [ep]
      constructor
      · intro h; omega
      · intro h
        cases i with
        | zero => exact absurd h k
        | succ i => exact absurd (lt_trans (h1 _ (List.getElem_mem (by simpa using hi))) h) k
theorem pos_found {s : List Nat} {L : List (List Nat)} (hr : Ris L) : s ∈ L ↔ ∃ h : pos s L < L.length, L[pos s L] = s := by
  constructor
  · intro h
    obtain ⟨i, hi, e⟩ := List.getElem_of_mem h
    have h1 : ¬ i < pos s L := fun k => lt_irrefl s (by have := (pos_get hr i hi).1 k; rwa [e] at this)
    have h2 : ¬ pos s L < i := fun k => by
      have hp : pos s L < L.length := by omega
      have q : lt L[pos s L] L[i] := (List.pairwise_iff_getElem.1 hr) _ _ hp hi k
      rw [e] at q
      have := (pos_get hr _ hp).2 q
      omega
    have : i = pos s L := by omega
    subst this
    exact ⟨hi, e⟩
  · rintro ⟨h, e⟩
    rw [← e]
    exact List.getElem_mem h
end Go.Proofs.YtpmdjopojcgpeaaGreatDoor.Dg

/-
  The pairs of a list that rises: the least of each key with each other one of that key.
-/
namespace Go.Proofs.YtpmdjopojcgpeaaGreatDoor.Dg

/-- two lists that rise by one order and have the same members are one -/
theorem rise_eq {α : Type} {r : α → α → Prop} (ir : ∀ x, ¬ r x x) (tr : ∀ x y z, r x y → r y z → r x z) : ∀ {l1 l2 : List α}, l1.Pairwise r → l2.Pairwise r → (∀ x, x ∈ l1 ↔ x ∈ l2) → l1 = l2
  | [], [], _, _, _ => rfl
  | [], b :: s, _, _, h => by have := (h b).2 (by simp); simp at this
  | a :: t, [], _, _, h => by have := (h a).1 (by simp); simp at this
  | a :: t, b :: s, h1, h2, h => by
    obtain ⟨a1, a2⟩ := List.pairwise_cons.1 h1
    obtain ⟨b1, b2⟩ := List.pairwise_cons.1 h2
    have hab : a = b := by
      rcases List.mem_cons.1 ((h a).1 (by simp)) with e | ha
      · exact e
      · rcases List.mem_cons.1 ((h b).2 (by simp)) with e | hb
        · exact e.symm
        · exact absurd (tr _ _ _ (b1 a ha) (a1 b hb)) (ir _)
    subst hab
    rw [rise_eq ir tr a2 b2 (fun p => ⟨fun hp => by
      rcases List.mem_cons.1 ((h p).1 (by simp [hp])) with e | hp'
      · exact absurd (e ▸ a1 p hp) (ir _)
      · exact hp', fun hp => by
      rcases List.mem_cons.1 ((h p).2 (by simp [hp])) with e | hp'
      · exact absurd (e ▸ b1 p hp) (ir _)
      · exact hp'⟩)]

theorem ris_head {m : List Nat} {r : List (List Nat)} (h : Ris (m :: r)) : ∀ x ∈ m :: r, ¬ lt x m := by
  intro x hx k
  rcases List.mem_cons.1 hx with e | hx
  · exact lt_irrefl m (e ▸ k)
  · exact lt_asymm ((List.pairwise_cons.1 h).1 x hx) k

/-- those of one key -/
def grp (κ : List Nat → List Nat) (L : List (List Nat)) (k : List Nat) : List (List Nat) := L.filter (fun x => decide (κ x = k))
theorem mem_grp {κ : List Nat → List Nat} {L : List (List Nat)} {k x : List Nat} : x ∈ grp κ L k ↔ x ∈ L ∧ κ x = k := by simp [grp]
theorem ris_grp {κ : List Nat → List Nat} {L : List (List Nat)} (h : Ris L) (k : List Nat) : Ris (grp κ L k) := h.sublist List.filter_sublist
theorem grp_ins {κ : List Nat → List Nat} {L : List (List Nat)} (h : Ris L) (s k : List Nat) : grp κ (ins s L) k = if κ s = k then ins s (grp κ L k) else grp κ L k := by
  unfold grp
  rw [filter_ins _ h]
  by_cases e : κ s = k
  · rw [if_pos (by simpa using e), if_pos e]
  · rw [if_neg (by simpa using e), if_neg e]

/-- the first of a group with each other one -/
def gpairs : List (List Nat) → List (List Nat × List Nat)
  | [] => []
  | m :: r => r.map (fun x => (m, x))
theorem mem_gpairs {g : List (List Nat)} (hg : Ris g) {a b : List Nat} : (a, b) ∈ gpairs g ↔ a ∈ g ∧ b ∈ g ∧ lt a b ∧ ∀ c ∈ g, ¬ lt c a := by
  cases g with
  | nil => simp [gpairs]
  | cons m r =>
    have h1 := (List.pairwise_cons.1 hg).1
    have h2 := ris_head hg
    simp only [gpairs, List.mem_map, Prod.mk.injEq]
    constructor
    · rintro ⟨x, hx, rfl, rfl⟩
      exact ⟨by simp, by simp [hx], h1 x hx, h2⟩
    · rintro ⟨ha, hb, hl, hm⟩
      have e : a = m := by
        rcases lt_tri a m with k | k | k
        · exact absurd k (h2 a ha)
        · exact k
        · exact absurd k (hm m (by simp))
      subst e
      rcases List.mem_cons.1 hb with e | hb
      · exact absurd (e ▸ hl) (lt_irrefl _)
      · exact ⟨b, hb, rfl, rfl⟩

/-- all pairs: by the least ones, rising -/
def pairsL (κ : List Nat → List Nat) (L : List (List Nat)) : List (List Nat × List Nat) :=
  L.flatMap (fun x => if (grp κ L (κ x)).head? = some x then gpairs (grp κ L (κ x)) else [])
theorem mem_pairsL {κ : List Nat → List Nat} {L : List (List Nat)} (hL : Ris L) {a b : List Nat} :
    (a, b) ∈ pairsL κ L ↔ a ∈ L ∧ b ∈ L ∧ κ a = κ b ∧ lt a b ∧ ∀ c ∈ L, κ c = κ a → ¬ lt c a := by
  unfold pairsL
  rw [List.mem_flatMap]
  constructor
  · rintro ⟨x, hx, h⟩
    split at h
    · obtain ⟨ha, hb, hl, hm⟩ := (mem_gpairs (ris_grp hL _)).1 h
      obtain ⟨ha, ea⟩ := mem_grp.1 ha
      obtain ⟨hb, eb⟩ := mem_grp.1 hb
      exact ⟨ha, hb, ea.trans eb.symm, hl, fun c hc e => hm c (mem_grp.2 ⟨hc, e.trans ea⟩)⟩
    · simp at h
  · rintro ⟨ha, hb, e, hl, hm⟩
    refine ⟨a, ha, ?_⟩
    have hmem : (a, b) ∈ gpairs (grp κ L (κ a)) := (mem_gpairs (ris_grp hL _)).2 ⟨mem_grp.2 ⟨ha, rfl⟩, mem_grp.2 ⟨hb, e.symm⟩, hl, fun c hc => hm c (mem_grp.1 hc).1 (mem_grp.1 hc).2⟩
    have hh : (grp κ L (κ a)).head? = some a := by
      have hr := ris_grp (κ := κ) hL (κ a)
      have hin : a ∈ grp κ L (κ a) := mem_grp.2 ⟨ha, rfl⟩
      have hmn : ∀ c ∈ grp κ L (κ a), ¬ lt c a := fun c hc => hm c (mem_grp.1 hc).1 (mem_grp.1 hc).2
      cases hg : grp κ L (κ a) with
      | nil => rw [hg] at hin; simp at hin
      | cons m r =>
        rw [hg] at hr hin hmn
        have h2 := ris_head hr
        rcases lt_tri a m with k | k | k
        · exact absurd k (h2 a hin)
        · rw [k]; rfl
        · exact absurd k (hmn m (by simp))
    rw [if_pos hh]
    exact hmem

/-- the order of pairs -/
def ltP (p q : List Nat × List Nat) : Prop := lt p.1 q.1 ∨ (p.1 = q.1 ∧ lt p.2 q.2)
theorem ltP_irrefl (p : List Nat × List Nat) : ¬ ltP p p := by
  rintro (h | ⟨_, h⟩)
  · exact lt_irrefl _ h
  · exact lt_irrefl _ h
theorem ltP_trans (p q r : List Nat × List Nat) (h : ltP p q) (k : ltP q r) : ltP p r := by
  rcases h with h | ⟨e, h⟩
  · rcases k with k | ⟨e', k⟩
    · exact Or.inl (lt_trans h k)
    · exact Or.inl (e' ▸ h)
  · rcases k with k | ⟨e', k⟩
    · exact Or.inl (e ▸ k)
    · exact Or.inr ⟨e.trans e', lt_trans h k⟩
theorem ltP_tri (p q : List Nat × List Nat) : ltP p q ∨ p = q ∨ ltP q p := by
  rcases lt_tri p.1 q.1 with h | h | h
  · exact Or.inl (Or.inl h)
  · rcases lt_tri p.2 q.2 with k | k | k
    · exact Or.inl (Or.inr ⟨h, k⟩)
    · exact Or.inr (Or.inl (Prod.ext h k))
    · exact Or.inr (Or.inr (Or.inr ⟨h.symm, k⟩))
  · exact Or.inr (Or.inr (Or.inl h))
theorem gpairs_fst {g : List (List Nat)} {p : List Nat × List Nat} (h : p ∈ gpairs g) : g.head? = some p.1 := by
  cases g with
  | nil => simp [gpairs] at h
  | cons m r =>
    simp only [gpairs, List.mem_map] at h
    obtain ⟨x, _, rfl⟩ := h
    rfl
theorem ris_gpairs {g : List (List Nat)} (hg : Ris g) : (gpairs g).Pairwise ltP := by
  cases g with
  | nil => exact List.Pairwise.nil
  | cons m r =>
    simp only [gpairs]
    rw [List.pairwise_map]
    exact (List.pairwise_cons.1 hg).2.imp (fun h => Or.inr ⟨rfl, h⟩)
theorem ris_flat {κ : List Nat → List Nat} {L : List (List Nat)} (hL : Ris L) : ∀ {l : List (List Nat)}, Ris l → (l.flatMap (fun x => if (grp κ L (κ x)).head? = some x then gpairs (grp κ L (κ x)) else [])).Pairwise ltP
  | [], _ => List.Pairwise.nil
  | x :: r, h => by
    obtain ⟨h1, h2⟩ := List.pairwise_cons.1 h
    rw [List.flatMap_cons, List.pairwise_append]
    refine ⟨?_, ris_flat hL h2, ?_⟩
    · split
      · exact ris_gpairs (ris_grp hL _)
      · exact List.Pairwise.nil
    · intro p hp q hq
      split at hp
      · rename_i hx
        obtain ⟨y, hy, hq⟩ := List.mem_flatMap.1 hq
        split at hq
        · rename_i hyy
          have e1 := gpairs_fst hp
          have e2 := gpairs_fst hq
          rw [hx] at e1
          rw [hyy] at e2
          have e1 := Option.some.inj e1
          have e2 := Option.some.inj e2
          exact Or.inl (e1 ▸ e2 ▸ h1 y hy)
        · simp at hq
      · simp at hp
theorem ris_pairsL {κ : List Nat → List Nat} {L : List (List Nat)} (hL : Ris L) : (pairsL κ L).Pairwise ltP := ris_flat hL hL

/-- no two strings have one key -/
def Lone (κ : List Nat → List Nat) (L : List (List Nat)) : Prop := L.Pairwise (fun x y => κ x ≠ κ y)
theorem lone_ins_new {κ : List Nat → List Nat} {L : List (List Nat)} {s : List Nat} (h : grp κ L (κ s) = []) : Lone κ (ins s L) ↔ Lone κ L := by
  have hn : ∀ x ∈ L, κ x ≠ κ s := fun x hx e => by have : x ∈ grp κ L (κ s) := mem_grp.2 ⟨hx, e⟩; rw [h] at this; simp at this
  clear h
  induction L with
  | nil => simp [ins, Lone]
  | cons y r ih =>
    have ih := ih (fun x hx => hn x (by simp [hx]))
    rw [ins_cons]
    split
    · constructor
      · intro h; exact (List.pairwise_cons.1 h).2
      · intro h; exact List.pairwise_cons.2 ⟨fun x hx => (hn x hx).symm, h⟩
    · split
      · exact Iff.rfl
      · unfold Lone at ih ⊢
        rw [List.pairwise_cons, List.pairwise_cons]
        constructor
        · rintro ⟨h1, h2⟩
          exact ⟨fun x hx => h1 x (mem_ins.2 (Or.inr hx)), ih.1 h2⟩
        · rintro ⟨h1, h2⟩
          refine ⟨fun x hx => ?_, ih.2 h2⟩
          rcases mem_ins.1 hx with e | hx
          · rw [e]; exact hn y (by simp)
          · exact h1 x hx
theorem not_lone_of {κ : List Nat → List Nat} {L : List (List Nat)} {x y : List Nat} (hx : x ∈ L) (hy : y ∈ L) (hne : x ≠ y) (e : κ x = κ y) : ¬ Lone κ L := by
  intro h
  induction L with
  | nil => simp at hx
  | cons z r ih =>
    obtain ⟨h1, h2⟩ := List.pairwise_cons.1 h
    rcases List.mem_cons.1 hx with e1 | hx'
    · rcases List.mem_cons.1 hy with e2 | hy'
      · exact hne (e1.trans e2.symm)
      · exact h1 y hy' (e1 ▸ e)
    · rcases List.mem_cons.1 hy with e2 | hy'
      · exact h1 x hx' (e2 ▸ e.symm)
      · exact ih hx' hy' h2
theorem lone_of {κ : List Nat → List Nat} {L : List (List Nat)} (hL : Ris L) (h : ∀ x ∈ L, ∀ y ∈ L, κ x = κ y → x = y) : Lone κ L := by
  induction L with
  | nil => exact List.Pairwise.nil
  | cons z r ih =>
    obtain ⟨h1, h2⟩ := List.pairwise_cons.1 hL
    refine List.pairwise_cons.2 ⟨fun x hx e => ?_, ih h2 (fun x hx y hy => h x (by simp [hx]) y (by simp [hy]))⟩
    exact lt_ne (h1 x hx) (h z (by simp) x (by simp [hx]) e)
/-- there are no pairs just if no two strings have one key -/
theorem pairsL_nil {κ : List Nat → List Nat} {L : List (List Nat)} (hL : Ris L) : pairsL κ L = [] ↔ Lone κ L := by
  constructor
  · intro h
    refine lone_of hL (fun x hx y hy e => ?_)
    -- the least of the group
    have hr := ris_grp (κ := κ) hL (κ x)
    have hinx : x ∈ grp κ L (κ x) := mem_grp.2 ⟨hx, rfl⟩
    have hiny : y ∈ grp κ L (κ x) := mem_grp.2 ⟨hy, e.symm⟩
    cases hg : grp κ L (κ x) with
    | nil => rw [hg] at hinx; simp at hinx
    | cons m r =>
      have hm : m ∈ grp κ L (κ x) := by rw [hg]; simp
      obtain ⟨hm1, hm2⟩ := mem_grp.1 hm
      rw [hg] at hr hinx hiny
      have h1 := (List.pairwise_cons.1 hr).1
      have no : ∀ z ∈ r, False := fun z hz => by
        have hz' : z ∈ grp κ L (κ x) := by rw [hg]; simp [hz]
        obtain ⟨z1, z2⟩ := mem_grp.1 hz'
        have : (m, z) ∈ pairsL κ L := (mem_pairsL hL).2 ⟨hm1, z1, hm2.trans z2.symm, h1 z hz, fun c hc ec => by
          have hc' : c ∈ grp κ L (κ x) := mem_grp.2 ⟨hc, ec.trans hm2⟩
          rw [hg] at hc'
          exact ris_head hr c hc'⟩
        rw [h] at this
        simp at this
      rcases List.mem_cons.1 hinx with e1 | hx'
      · rcases List.mem_cons.1 hiny with e2 | hy'
        · rw [e1, e2]
        · exact (no y hy').elim
      · exact (no x hx').elim
  · intro h
    cases hp : pairsL κ L with
    | nil => rfl
    | cons p t =>
      obtain ⟨a, b⟩ := p
      have hm : (a, b) ∈ pairsL κ L := by rw [hp]; simp
      obtain ⟨ha, hb, e, hl, _⟩ := (mem_pairsL hL).1 hm
      exact absurd h (not_lone_of ha hb (lt_ne hl) e)
end Go.Proofs.YtpmdjopojcgpeaaGreatDoor.Dg
