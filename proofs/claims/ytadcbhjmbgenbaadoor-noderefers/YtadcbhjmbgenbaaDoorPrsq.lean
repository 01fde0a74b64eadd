import Derived.Test.YtadcbhjmbgenbaaDoorLexq
/-
  The pairs of a list that rises: the least of each key with each other one of that key.
-/
namespace Go.Proofs.YtadcbhjmbgenbaaDoor

/-- two lists that rise by one order and have the same members are one -/
theorem rise_eq {α : Type} {r : α → α → Prop} (ir : ∀ x, ¬ r x x) (tr : ∀ x y z, r x y → r y z → r x z) : ∀ {l1 l2 : List α}, l1.Pairwise r → l2.Pairwise r → (∀ x, x ∈ l1 ↔ x ∈ l2) → l1 = l2
  | [], [], _, _, _ => rfl
  | [], b :: s, _, _, h => by have := (h b).2 (by simp); simp at this
  | a :: t, [], _, _, h => by have := (h a).1 (by simp); simp at this
  | a :: t, b :: s, h1, h2, h => by
    obtain ⟨a1, a2⟩ := List.pairwise_cons.1 h1
    obtain ⟨b1, b2⟩ := List.pairwise_cons.1 h2
    have hab : a = b := by
      rcases List.mem_cons.1 ((h a).1 (by simp)) with e | ha
      · exact e
      · rcases List.mem_cons.1 ((h b).2 (by simp)) with e | hb
        · exact e.symm
        · exact absurd (tr _ _ _ (b1 a ha) (a1 b hb)) (ir _)
    subst hab
    rw [rise_eq ir tr a2 b2 (fun p => ⟨fun hp => by
      rcases List.mem_cons.1 ((h p).1 (by simp [hp])) with e | hp'
      · exact absurd (e ▸ a1 p hp) (ir _)
      · exact hp', fun hp => by
      rcases List.mem_cons.1 ((h p).2 (by simp [hp])) with e | hp'
      · exact absurd (e ▸ b1 p hp) (ir _)
      · exact hp'⟩)]

theorem ris_head {m : List Nat} {r : List (List Nat)} (h : Ris (m :: r)) : ∀ x ∈ m :: r, ¬ lt x m := by
  intro x hx k
  rcases List.mem_cons.1 hx with e | hx
  · exact lt_irrefl m (e ▸ k)
  · exact lt_asymm ((List.pairwise_cons.1 h).1 x hx) k

/-- those of one key -/
def grp (κ : List Nat → List Nat) (L : List (List Nat)) (k : List Nat) : List (List Nat) := L.filter (fun x => decide (κ x = k))
theorem mem_grp {κ : List Nat → List Nat} {L : List (List Nat)} {k x : List Nat} : x ∈ grp κ L k ↔ x ∈ L ∧ κ x = k := by simp [grp]
theorem ris_grp {κ : List Nat → List Nat} {L : List (List Nat)} (h : Ris L) (k : List Nat) : Ris (grp κ L k) := h.sublist List.filter_sublist
theorem grp_ins {κ : List Nat → List Nat} {L : List (List Nat)} (h : Ris L) (s k : List Nat) : grp κ (ins s L) k = if κ s = k then ins s (grp κ L k) else grp κ L k := by
  unfold grp
  rw [filter_ins _ h]
  by_cases e : κ s = k
  · rw [if_pos (by simpa using e), if_pos e]
  · rw [if_neg (by simpa using e), if_neg e]

/-- the first of a group with each other one -/
def gpairs : List (List Nat) → List (List Nat × List Nat)
  | [] => []
  | m :: r => r.map (fun x => (m, x))
theorem mem_gpairs {g : List (List Nat)} (hg : Ris g) {a b : List Nat} : (a, b) ∈ gpairs g ↔ a ∈ g ∧ b ∈ g ∧ lt a b ∧ ∀ c ∈ g, ¬ lt c a := by
  cases g with
  | nil => simp [gpairs]
  | cons m r =>
    have h1 := (List.pairwise_cons.1 hg).1
    have h2 := ris_head hg
    simp only [gpairs, List.mem_map, Prod.mk.injEq]
    constructor
    · rintro ⟨x, hx, rfl, rfl⟩
      exact ⟨by simp, by simp [hx], h1 x hx, h2⟩
    · rintro ⟨ha, hb, hl, hm⟩
      have e : a = m := by
        rcases lt_tri a m with k | k | k
        · exact absurd k (h2 a ha)
        · exact k
        · exact absurd k (hm m (by simp))
      subst e
      rcases List.mem_cons.1 hb with e | hb
      · exact absurd (e ▸ hl) (lt_irrefl _)
      · exact ⟨b, hb, rfl, rfl⟩

/-- all pairs: by the least ones, rising -/
def pairsL (κ : List Nat → List Nat) (L : List (List Nat)) : List (List Nat × List Nat) :=
  L.flatMap (fun x => if (grp κ L (κ x)).head? = some x then gpairs (grp κ L (κ x)) else [])
theorem mem_pairsL {κ : List Nat → List Nat} {L : List (List Nat)} (hL : Ris L) {a b : List Nat} :
    (a, b) ∈ pairsL κ L ↔ a ∈ L ∧ b ∈ L ∧ κ a = κ b ∧ lt a b ∧ ∀ c ∈ L, κ c = κ a → ¬ lt c a := by
  unfold pairsL
  rw [List.mem_flatMap]
  constructor
  · rintro ⟨x, hx, h⟩
    split at h
    · obtain ⟨ha, hb, hl, hm⟩ := (mem_gpairs (ris_grp hL _)).1 h
      obtain ⟨ha, ea⟩ := mem_grp.1 ha
      obtain ⟨hb, eb⟩ := mem_grp.1 hb
      exact ⟨ha, hb, ea.trans eb.symm, hl, fun c hc e => hm c (mem_grp.2 ⟨hc, e.trans ea⟩)⟩
    · simp at h
  · rintro ⟨ha, hb, e, hl, hm⟩
    refine ⟨a, ha, ?_⟩
    have hmem : (a, b) ∈ gpairs (grp κ L (κ a)) := (mem_gpairs (ris_grp hL _)).2 ⟨mem_grp.2 ⟨ha, rfl⟩, mem_grp.2 ⟨hb, e.symm⟩, hl, fun c hc => hm c (mem_grp.1 hc).1 (mem_grp.1 hc).2⟩
    have hh : (grp κ L (κ a)).head? = some a := by
      have hr := ris_grp (κ := κ) hL (κ a)
      have hin : a ∈ grp κ L (κ a) := mem_grp.2 ⟨ha, rfl⟩
      have hmn : ∀ c ∈ grp κ L (κ a), ¬ lt c a := fun c hc => hm c (mem_grp.1 hc).1 (mem_grp.1 hc).2
      cases hg : grp κ L (κ a) with
      | nil => rw [hg] at hin; simp at hin
      | cons m r =>
        rw [hg] at hr hin hmn
        have h2 := ris_head hr
        rcases lt_tri a m with k | k | k
        · exact absurd k (h2 a hin)
        · rw [k]; rfl
        · exact absurd k (hmn m (by simp))
    rw [if_pos hh]
    exact hmem

/-- the order of pairs -/
def ltP (p q : List Nat × List Nat) : Prop := lt p.1 q.1 ∨ (p.1 = q.1 ∧ lt p.2 q.2)
theorem ltP_irrefl (p : List Nat × List Nat) : ¬ ltP p p := by
  rintro (h | ⟨_, h⟩)
  · exact lt_irrefl _ h
  · exact lt_irrefl _ h
theorem ltP_trans (p q r : List Nat × List Nat) (h : ltP p q) (k : ltP q r) : ltP p r := by
  rcases h with h | ⟨e, h⟩
  · rcases k with k | ⟨e', k⟩
    · exact Or.inl (lt_trans h k)
    · exact Or.inl (e' ▸ h)
  · rcases k with k | ⟨e', k⟩
    · exact Or.inl (e ▸ k)
    · exact Or.inr ⟨e.trans e', lt_trans h k⟩
theorem ltP_tri (p q : List Nat × List Nat) : ltP p q ∨ p = q ∨ ltP q p := by
  rcases lt_tri p.1 q.1 with h | h | h
  · exact Or.inl (Or.inl h)
  · rcases lt_tri p.2 q.2 with k | k | k
    · exact Or.inl (Or.inr ⟨h, k⟩)
    · exact Or.inr (Or.inl (Prod.ext h k))
    · exact Or.inr (Or.inr (Or.inr ⟨h.symm, k⟩))
  · exact Or.inr (Or.inr (Or.inl h))
theorem gpairs_fst {g : List (List Nat)} {p : List Nat × List Nat} (h : p ∈ gpairs g) : g.head? = some p.1 := by
  cases g with
  | nil => simp [gpairs] at h
  | cons m r =>
    simp only [gpairs, List.mem_map] at h
    obtain ⟨x, _, rfl⟩ := h
    rfl
theorem ris_gpairs {g : List (List Nat)} (hg : Ris g) : (gpairs g).Pairwise ltP := by
  cases g with
  | nil => exact List.Pairwise.nil
  | cons m r =>
    simp only [gpairs]
    rw [List.pairwise_map]
    exact (List.pairwise_cons.1 hg).2.imp (fun h => Or.inr ⟨rfl, h⟩)
theorem ris_flat {κ : List Nat → List Nat} {L : List (List Nat)} (hL : Ris L) : ∀ {l : List (List Nat)}, Ris l → (l.flatMap (fun x => if (grp κ L (κ x)).head? = some x then gpairs (grp κ L (κ x)) else [])).Pairwise ltP
  | [], _ => List.Pairwise.nil
  | x :: r, h => by
    obtain ⟨h1, h2⟩ := List.pairwise_cons.1 h
    rw [List.flatMap_cons, List.pairwise_append]
    refine ⟨?_, ris_flat hL h2, ?_⟩
    · split
      · exact ris_gpairs (ris_grp hL _)
      · exact List.Pairwise.nil
    · intro p hp q hq
      split at hp
      · rename_i hx
        obtain ⟨y, hy, hq⟩ := List.mem_flatMap.1 hq
        split at hq
        · rename_i hyy
          have e1 := gpairs_fst hp
          have e2 := gpairs_fst hq
          rw [hx] at e1
          rw [hyy] at e2
          have e1 := Option.some.inj e1
          have e2 := Option.some.inj e2
          exact Or.inl (e1 ▸ e2 ▸ h1 y hy)
        · simp at hq
      · simp at hp
theorem ris_pairsL {κ : List Nat → List Nat} {L : List (List Nat)} (hL : Ris L) : (pairsL κ L).Pairwise ltP := ris_flat hL hL

/-- no two strings have one key -/
def Lone (κ : List Nat → List Nat) (L : List (List Nat)) : Prop := L.Pairwise (fun x y => κ x ≠ κ y)
theorem lone_ins_new {κ : List Nat → List Nat} {L : List (List Nat)} {s : List Nat} (h : grp κ L (κ s) = []) : Lone κ (ins s L) ↔ Lone κ L := by
  have hn : ∀ x ∈ L, κ x ≠ κ s := fun x hx e => by have : x ∈ grp κ L (κ s) := mem_grp.2 ⟨hx, e⟩; rw [h] at this; simp at this
  clear h
  induction L with
  | nil => simp [ins, Lone]
  | cons y r ih =>
    have ih := ih (fun x hx => hn x (by simp [hx]))
    rw [ins_cons]
    split
    · constructor
      · intro h; exact (List.pairwise_cons.1 h).2
      · intro h; exact List.pairwise_cons.2 ⟨fun x hx => (hn x hx).symm, h⟩
    · split
      · exact Iff.rfl
      · unfold Lone at ih ⊢
        rw [List.pairwise_cons, List.pairwise_cons]
        constructor
        · rintro ⟨h1, h2⟩
          exact ⟨fun x hx => h1 x (mem_ins.2 (Or.inr hx)), ih.1 h2⟩
        · rintro ⟨h1, h2⟩
          refine ⟨fun x hx => ?_, ih.2 h2⟩
          rcases mem_ins.1 hx with e | hx
          · rw [e]; exact hn y (by simp)
          · exact h1 x hx
theorem not_lone_of {κ : List Nat → List Nat} {L : List (List Nat)} {x y : List Nat} (hx : x ∈ L) (hy : y ∈ L) (hne : x ≠ y) (e : κ x = κ y) : ¬ Lone κ L := by
  intro h
  induction L with
  | nil => simp at hx
  | cons z r ih =>
    obtain ⟨h1, h2⟩ := List.pairwise_cons.1 h
    rcases List.mem_cons.1 hx with e1 | hx'
    · rcases List.mem_cons.1 hy with e2 | hy'
      · exact hne (e1.trans e2.symm)
      · exact h1 y hy' (e1 ▸ e)
    · rcases List.mem_cons.1 hy with e2 | hy'
      · exact h1 x hx' (e2 ▸ e.symm)
      · exact ih hx' hy' h2
theorem lone_of {κ : List Nat → List Nat} {L : List (List Nat)} (hL : Ris L) (h : ∀ x ∈ L, ∀ y ∈ L, κ x = κ y → x = y) : Lone κ L := by
  induction L with
  | nil => exact List.Pairwise.nil
  | cons z r ih =>
    obtain ⟨h1, h2⟩ := List.pairwise_cons.1 hL
    refine List.pairwise_cons.2 ⟨fun x hx e => ?_, ih h2 (fun x hx y hy => h x (by simp [hx]) y (by simp [hy]))⟩
    exact lt_ne (h1 x hx) (h z (by simp) x (by simp [hx]) e)
/-- there are no pairs just if no two strings have one key -/
theorem pairsL_nil {κ : List Nat → List Nat} {L : List (List Nat)} (hL : Ris L) : pairsL κ L = [] ↔ Lone κ L := by
  constructor
  · intro h
    refine lone_of hL (fun x hx y hy e => ?_)
    -- the least of the group
    have hr := ris_grp (κ := κ) hL (κ x)
    have hinx : x ∈ grp κ L (κ x) := mem_grp.2 ⟨hx, rfl⟩
    have hiny : y ∈ grp κ L (κ x) := mem_grp.2 ⟨hy, e.symm⟩
    cases hg : grp κ L (κ x) with
    | nil => rw [hg] at hinx; simp at hinx
    | cons m r =>
      have hm : m ∈ grp κ L (κ x) := by rw [hg]; simp
      obtain ⟨hm1, hm2⟩ := mem_grp.1 hm
      rw [hg] at hr hinx hiny
      have h1 := (List.pairwise_cons.1 hr).1
      have no : ∀ z ∈ r, False := fun z hz => by
        have hz' : z ∈ grp κ L (κ x) := by rw [hg]; simp [hz]
        obtain ⟨z1, z2⟩ := mem_grp.1 hz'
        have : (m, z) ∈ pairsL κ L := (mem_pairsL hL).2 ⟨hm1, z1, hm2.trans z2.symm, h1 z hz, fun c hc ec => by
          have hc' : c ∈ grp κ L (κ x) := mem_grp.2 ⟨hc, ec.trans hm2⟩
          rw [hg] at hc'
          exact ris_head hr c hc'⟩
        rw [h] at this
        simp at this
      rcases List.mem_cons.1 hinx with e1 | hx'
      · rcases List.mem_cons.1 hiny with e2 | hy'
        · rw [e1, e2]
        · exact (no y hy').elim
      · exact (no x hx').elim
  · intro h
    cases hp : pairsL κ L with
    | nil => rfl
    | cons p t =>
      obtain ⟨a, b⟩ := p
      have hm : (a, b) ∈ pairsL κ L := by rw [hp]; simp
      obtain ⟨ha, hb, e, hl, _⟩ := (mem_pairsL hL).1 hm
      exact absurd h (not_lone_of ha hb (lt_ne hl) e)
end Go.Proofs.YtadcbhjmbgenbaaDoor
