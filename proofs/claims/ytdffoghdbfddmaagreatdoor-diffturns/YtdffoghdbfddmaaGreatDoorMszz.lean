import Derived.Test.YtdffoghdbfddmaaGreatDoorLwzz
/-
  Stable sorts and maps, as lists.
-/
namespace Go.Sy
/-- How two strings stand, told by the first signs. -/
def lx : List Nat → List Nat → Int
  | [], [] => 0
  | [], _ :: _ => -1
  | _ :: _, [] => 1
  | a :: A, b :: B => if a = b then lx A B else if a < b then -1 else 1
theorem cmp_lx : ∀ A B : List Nat, cmp A B = lx A B
  | [], [] => rfl
  | [], _ :: _ => rfl
  | _ :: _, [] => rfl
  | a :: A, b :: B => by
    have ih := cmp_lx A B
    rw [lx]
    by_cases h : a = b
    · rw [if_pos h, ← ih]
      unfold cmp
      rw [com, if_pos h]
      simp only [List.length_cons, Nat.add_right_cancel_iff, List.getD_cons_succ]
    · rw [if_neg h]
      unfold cmp
      rw [com, if_neg h, if_neg (by simp), if_neg (by simp), if_neg (by simp)]
      rfl
theorem lx_swap : ∀ A B : List Nat, lx B A = - lx A B
  | [], [] => rfl
  | [], _ :: _ => rfl
  | _ :: _, [] => rfl
  | a :: A, b :: B => by
    rw [lx, lx]
    by_cases h : a = b
    · rw [if_pos h, if_pos h.symm]; exact lx_swap A B
    · rw [if_neg h, if_neg (Ne.symm h)]
      by_cases k : a < b
      · rw [if_pos k, if_neg (by omega)]; rfl
      · rw [if_neg k, if_pos (by omega)]
theorem lx_trans : ∀ {A B C : List Nat}, lx A B ≤ 0 → lx B C ≤ 0 → lx A C ≤ 0 ∧ (lx A C = 0 → lx A B = 0 ∧ lx B C = 0)
  | [], [], C, _, h => ⟨h, fun e => ⟨rfl, e⟩⟩
  | [], _ :: _, [], _, h => by simp [lx] at h
  | [], _ :: _, _ :: _, _, _ => by simp [lx]
  | _ :: _, [], _, h, _ => by simp [lx] at h
  | _ :: _, _ :: _, [], _, h => by simp [lx] at h
  | a :: A, b :: B, c :: C, h, k => by
    simp only [lx] at h k ⊢
    by_cases h1 : a = b
    · subst h1
      rw [if_pos rfl] at h
      rw [if_pos rfl]
      by_cases h2 : a = c
      · subst h2
        rw [if_pos rfl] at k ⊢
        rw [if_pos rfl]
        exact lx_trans h k
      · rw [if_neg h2] at k ⊢
        rw [if_neg h2]
        by_cases h3 : a < c
        · rw [if_pos h3]; exact ⟨by decide, fun e => by cases e⟩
        · rw [if_neg h3] at k; exact absurd k (by decide)
    · rw [if_neg h1] at h ⊢
      by_cases h3 : a < b
      · rw [if_pos h3] at h ⊢
        by_cases h2 : b = c
        · subst h2; rw [if_neg h1, if_pos h3]; exact ⟨by decide, fun e => by cases e⟩
        · rw [if_neg h2] at k
          by_cases h4 : b < c
          · rw [if_neg (by omega), if_pos (by omega)]; exact ⟨by decide, fun e => by cases e⟩
          · rw [if_neg h4] at k; exact absurd k (by decide)
      · rw [if_neg h3] at h; exact absurd h (by decide)
theorem lx_zero : ∀ {A B : List Nat}, lx A B = 0 ↔ A = B := fun {A B} => by rw [← cmp_lx]; exact cmp_zero
/-- One string stands ahead of another. -/
def Lt (A B : List Nat) : Prop := cmp A B < 0
instance (A B : List Nat) : Decidable (Lt A B) := inferInstanceAs (Decidable (cmp A B < 0))
theorem Lt.irrefl (A : List Nat) : ¬ Lt A A := by unfold Lt; rw [cmp_zero.2 rfl]; decide
theorem cmp_swap (A B : List Nat) : cmp B A = - cmp A B := by rw [cmp_lx, cmp_lx, lx_swap]
theorem Lt.asymm {A B : List Nat} (h : Lt A B) : ¬ Lt B A := by unfold Lt at *; rw [cmp_swap]; omega
theorem Lt.ne {A B : List Nat} (h : Lt A B) : A ≠ B := fun e => by subst e; exact Lt.irrefl _ h
theorem Lt.or {A B : List Nat} (h : ¬ Lt A B) : Lt B A ∨ A = B := by
  unfold Lt at *
  rw [← cmp_zero, cmp_swap A B]
  omega
theorem Lt.ltle {A B C : List Nat} (h : Lt A B) (k : ¬ Lt C B) : Lt A C := by
  unfold Lt at *
  rw [cmp_lx] at *
  have k' : lx B C ≤ 0 := by rw [lx_swap C B]; omega
  obtain ⟨a, b⟩ := lx_trans (Int.le_of_lt h) k'
  rcases Int.lt_or_eq_of_le a with a | a
  · exact a
  · have := (b a).1; omega
theorem Lt.lelt {A B C : List Nat} (h : ¬ Lt B A) (k : Lt B C) : Lt A C := by
  unfold Lt at *
  rw [cmp_lx] at *
  have h' : lx A B ≤ 0 := by rw [lx_swap B A]; omega
  obtain ⟨a, b⟩ := lx_trans h' (Int.le_of_lt k)
  rcases Int.lt_or_eq_of_le a with a | a
  · exact a
  · have := (b a).2; omega
theorem Lt.trans {A B C : List Nat} (h : Lt A B) (k : Lt B C) : Lt A C := h.ltle k.asymm
theorem Lt.lele {A B C : List Nat} (h : ¬ Lt B A) (k : ¬ Lt C B) : ¬ Lt C A := fun e => k (e.ltle h)
section
variable {α : Type} (f : α → List Nat)
/-- The same, but for the order of what has other keys. -/
def Sta (l l' : List α) : Prop := ∀ κ, l'.filter (fun x => decide (f x = κ)) = l.filter (fun x => decide (f x = κ))
def Srt (l : List α) : Prop := l.Pairwise fun x y => ¬ Lt (f y) (f x)
variable {f}
theorem Sta.refl {l : List α} : Sta f l l := fun _ => rfl
theorem Sta.trans {l l1 l2 : List α} (h : Sta f l l1) (k : Sta f l1 l2) : Sta f l l2 := fun κ => (k κ).trans (h κ)
theorem Sta.app {l l' m m' : List α} (h : Sta f l l') (k : Sta f m m') : Sta f (l ++ m) (l' ++ m') := fun κ => by rw [List.filter_append, List.filter_append, h κ, k κ]
theorem Sta.mem {l l' : List α} (h : Sta f l l') (x : α) : x ∈ l' ↔ x ∈ l := by
  have e := h (f x)
  have : ∀ m : List α, x ∈ m ↔ x ∈ m.filter fun y => decide (f y = f x) := fun m => by rw [List.mem_filter]; simp
  rw [this l', this l, e]
theorem Sta.swap {l m : List α} (h : ∀ x ∈ l, ∀ y ∈ m, f x ≠ f y) : Sta f (l ++ m) (m ++ l) := fun κ => by
  rw [List.filter_append, List.filter_append]
  by_cases hl : ∃ x ∈ l, f x = κ
  · obtain ⟨x, hx, rfl⟩ := hl
    rw [show m.filter (fun y => decide (f y = f x)) = [] from List.filter_eq_nil_iff.2 fun y hy => by simpa using fun e => h x hx y hy e.symm]
    simp
  · rw [show l.filter (fun y => decide (f y = κ)) = [] from List.filter_eq_nil_iff.2 fun y hy => by simpa using fun e => hl ⟨y, hy, e⟩]
    simp
theorem Sta.mid {P l m R : List α} (h : Sta f l m) : Sta f (P ++ l ++ R) (P ++ m ++ R) := (Sta.refl.app h).app .refl
theorem Srt.app {l m : List α} (hl : Srt f l) (hm : Srt f m) (h : ∀ x ∈ l, ∀ y ∈ m, ¬ Lt (f y) (f x)) : Srt f (l ++ m) := List.pairwise_append.2 ⟨hl, hm, h⟩
theorem Srt.left {l m : List α} (h : Srt f (l ++ m)) : Srt f l := (List.pairwise_append.1 h).1
theorem Srt.right {l m : List α} (h : Srt f (l ++ m)) : Srt f m := (List.pairwise_append.1 h).2.1
theorem Srt.cross {l m : List α} (h : Srt f (l ++ m)) : ∀ x ∈ l, ∀ y ∈ m, ¬ Lt (f y) (f x) := (List.pairwise_append.1 h).2.2
/-- One more, laid into its place. -/
theorem Srt.put {l m : List α} {x : α} (h : Srt f (l ++ m)) (h1 : ∀ y ∈ l, ¬ Lt (f x) (f y)) (h2 : ∀ y ∈ m, ¬ Lt (f y) (f x)) : Srt f (l ++ x :: m) := by
  refine h.left.app (List.pairwise_cons.2 ⟨h2, h.right⟩) fun a ha b hb => ?_
  rcases List.mem_cons.1 hb with rfl | hb
  · exact h1 a ha
  · exact h.cross a ha b hb
/-- Two sorted rows, cut so that what changes places stands apart. -/
theorem merge_ok {U1 U2 V1 V2 M1 M2 : List α} (hU : Srt f (U1 ++ U2)) (hV : Srt f (V1 ++ V2)) (h1 : ∀ v ∈ V1, ∀ u ∈ U2, Lt (f v) (f u)) (h2 : ∀ u ∈ U1, ∀ v ∈ V2, ¬ Lt (f v) (f u))
    (s1 : Sta f (U1 ++ V1) M1) (s2 : Sta f (U2 ++ V2) M2) (o1 : Srt f M1) (o2 : Srt f M2) : Sta f ((U1 ++ U2) ++ (V1 ++ V2)) (M1 ++ M2) ∧ Srt f (M1 ++ M2) := by
  constructor
  · have a : Sta f ((U1 ++ U2) ++ (V1 ++ V2)) ((U1 ++ V1) ++ (U2 ++ V2)) := by
      have := (Sta.mid (P := U1) (R := V2) (Sta.swap (l := U2) (m := V1) (f := f) fun x hx y hy e => (h1 y hy x hx).ne e.symm))
      simpa [List.append_assoc] using this
    exact a.trans (s1.app s2)
  · refine o1.app o2 fun x hx y hy => ?_
    rcases List.mem_append.1 ((s1.mem x).1 hx) with hx | hx <;> rcases List.mem_append.1 ((s2.mem y).1 hy) with hy | hy
    · exact hU.cross x hx y hy
    · exact h2 x hx y hy
    · exact (h1 x hx y hy).asymm
    · exact hV.cross x hx y hy
/-- A part of a row, sorted. -/
def Seg (f : α → List Nat) (l : List α) (lo hi : Nat) : Prop := Srt f ((l.drop lo).take (hi - lo))
theorem seg_nil {l : List α} {lo hi : Nat} (h : hi ≤ lo) : Seg f l lo hi := by unfold Seg; rw [show hi - lo = 0 by omega]; exact .nil
theorem take_drop_mid {P M R : List α} {a n : Nat} (ha : P.length = a) (hn : M.length = n) : ((P ++ M ++ R).drop a).take n = M := by
  subst ha hn
  rw [List.append_assoc, List.drop_left, List.take_left]
theorem split3 {l : List α} {a b : Nat} (h1 : a ≤ b) (_h2 : b ≤ l.length) : l = l.take a ++ (l.drop a).take (b - a) ++ l.drop b := by
  have : l.drop b = (l.drop a).drop (b - a) := by rw [List.drop_drop]; congr 1; omega
  rw [this, List.append_assoc, List.take_append_drop, List.take_append_drop]
theorem len3 {l : List α} {a b : Nat} (h1 : a ≤ b) (h2 : b ≤ l.length) : (l.take a).length = a ∧ ((l.drop a).take (b - a)).length = b - a := by
  rw [List.length_take, List.length_take, List.length_drop]; omega
theorem Seg.ahead {P M M' R : List α} {lo hi : Nat} (h : Seg f (P ++ M ++ R) lo hi) (hh : hi ≤ P.length) : Seg f (P ++ M' ++ R) lo hi := by
  unfold Seg at *
  by_cases hl : lo ≤ P.length
  · have e : ∀ Z : List α, ((P ++ Z ++ R).drop lo).take (hi - lo) = (P.drop lo).take (hi - lo) := fun Z => by
      rw [List.append_assoc, List.drop_append_of_le_length hl, List.take_append_of_le_length (by rw [List.length_drop]; omega)]
    rw [e] at *; exact h
  · rw [show hi - lo = 0 by omega]; exact .nil
theorem Seg.behind {P M M' R : List α} {lo hi : Nat} (h : Seg f (P ++ M ++ R) lo hi) (hM : M.length = M'.length) (hh : P.length + M.length ≤ lo) : Seg f (P ++ M' ++ R) lo hi := by
  unfold Seg at *
  have e : ∀ Z : List α, Z.length = M'.length → (P ++ Z ++ R).drop lo = R.drop (lo - (P.length + M'.length)) := fun Z hZ => by
    rw [List.drop_append, List.drop_eq_nil_of_le (by rw [List.length_append]; omega), List.nil_append, List.length_append, hZ]
  rw [e M hM] at h; rw [e M' rfl]; exact h
theorem Seg.here {P M R : List α} {a b : Nat} (ha : P.length = a) (hb : M.length = b - a) (h : Srt f M) : Seg f (P ++ M ++ R) a b := by unfold Seg; rw [take_drop_mid ha hb]; exact h
theorem Seg.cut {l : List α} {a b b' : Nat} (h : Seg f l a b) (hb : l.length ≤ b') (hbb : b' ≤ b) : Seg f l a b' := by
  unfold Seg at *
  rwa [List.take_of_length_le (by rw [List.length_drop]; omega)] at *
theorem Seg.out {l : List α} {a b b' : Nat} (h : Seg f l a b) (hb : l.length ≤ b) : Seg f l a b' := by
  unfold Seg at *
  rw [List.take_of_length_le (by rw [List.length_drop]; omega)] at h
  exact h.sublist (List.take_sublist _ _)
end
/-- Entries by their keys, rising. -/
def SS (D : List Ety) : Prop := D.Pairwise fun x y => Lt x.1 y.1
/-- The last one of a key. -/
def lst (L : List Ety) (κ : List Nat) : Option Ety := (L.filter fun x => decide (x.1 = κ)).getLast?
def ins : List Ety → Ety → List Ety
  | [], e => [e]
  | d :: D, e => if Lt d.1 e.1 then d :: ins D e else if d.1 = e.1 then e :: D else e :: d :: D
def canon (L : List Ety) : List Ety := L.foldl ins []
theorem lst_add {L : List Ety} {e : Ety} {κ : List Nat} : lst (L ++ [e]) κ = if e.1 = κ then some e else lst L κ := by
  unfold lst
  rw [List.filter_append]
  by_cases h : e.1 = κ
  · rw [if_pos h, show [e].filter (fun x => decide (x.1 = κ)) = [e] by simp [h], List.getLast?_append]; rfl
  · rw [if_neg h, show [e].filter (fun x => decide (x.1 = κ)) = [] by simp [h], List.append_nil]
theorem lst_key {L : List Ety} {κ : List Nat} {x : Ety} (h : lst L κ = some x) : x ∈ L ∧ x.1 = κ := by
  have := List.mem_of_getLast? h
  simpa [List.mem_filter] using this
theorem lst_none {L : List Ety} {κ : List Nat} (h : ∀ x ∈ L, x.1 ≠ κ) : lst L κ = none := by
  unfold lst
  rw [List.filter_eq_nil_iff.2 fun x hx => by simpa using h x hx]; rfl
theorem mem_ins {e x : Ety} : ∀ {D : List Ety}, SS D → (x ∈ ins D e ↔ x = e ∨ (x ∈ D ∧ x.1 ≠ e.1))
  | [], _ => by simp [ins]
  | d :: D, h => by
    obtain ⟨h1, h2⟩ := List.pairwise_cons.1 h
    unfold ins
    by_cases a : Lt d.1 e.1
    · rw [if_pos a, List.mem_cons, mem_ins h2, List.mem_cons]
      constructor
      · rintro (rfl | rfl | ⟨b, c⟩)
        · exact .inr ⟨.inl rfl, a.ne⟩
        · exact .inl rfl
        · exact .inr ⟨.inr b, c⟩
      · rintro (rfl | ⟨rfl | b, c⟩)
        · exact .inr (.inl rfl)
        · exact .inl rfl
        · exact .inr (.inr ⟨b, c⟩)
    · rw [if_neg a]
      by_cases b : d.1 = e.1
      · rw [if_pos b, List.mem_cons, List.mem_cons]
        constructor
        · rintro (rfl | c)
          · exact .inl rfl
          · exact .inr ⟨.inr c, fun e' => (h1 x c).ne (b.trans e'.symm)⟩
        · rintro (rfl | ⟨rfl | c, c'⟩)
          · exact .inl rfl
          · exact absurd b c'
          · exact .inr c
      · rw [if_neg b, List.mem_cons, List.mem_cons]
        have hed : Lt e.1 d.1 := (Lt.or a).resolve_right b
        constructor
        · rintro (rfl | rfl | c)
          · exact .inl rfl
          · exact .inr ⟨.inl rfl, b⟩
          · exact .inr ⟨.inr c, fun e' => (hed.trans (h1 x c)).ne e'.symm⟩
        · rintro (rfl | ⟨rfl | c, c'⟩)
          · exact .inl rfl
          · exact .inr (.inl rfl)
          · exact .inr (.inr c)
theorem ins_ss {e : Ety} : ∀ {D : List Ety}, SS D → SS (ins D e)
  | [], _ => List.pairwise_singleton _ _
  | d :: D, h => by
    obtain ⟨h1, h2⟩ := List.pairwise_cons.1 h
    unfold ins
    by_cases a : Lt d.1 e.1
    · rw [if_pos a]
      refine List.pairwise_cons.2 ⟨fun x hx => ?_, ins_ss h2⟩
      rcases (mem_ins h2).1 hx with rfl | ⟨b, _⟩
      · exact a
      · exact h1 x b
    · rw [if_neg a]
      by_cases b : d.1 = e.1
      · rw [if_pos b]; exact List.pairwise_cons.2 ⟨fun x hx => b ▸ h1 x hx, h2⟩
      · rw [if_neg b]
        have hed : Lt e.1 d.1 := (Lt.or a).resolve_right b
        refine List.pairwise_cons.2 ⟨fun x hx => ?_, h⟩
        rcases List.mem_cons.1 hx with rfl | hx
        · exact hed
        · exact hed.trans (h1 x hx)
/-- Where one more is laid in. -/
theorem ins_at {e : Ety} : ∀ {D : List Ety} {i : Nat}, SS D → i ≤ D.length → (∀ j, j < i → ∀ x, D[j]? = some x → Lt x.1 e.1) → (∀ x, D[i]? = some x → ¬ Lt x.1 e.1) →
    ins D e = D.take i ++ e :: D.drop (if (D[i]?.any fun x => decide (x.1 = e.1)) = true then i + 1 else i)
  | [], i, _, hi, _, _ => by
    have : i = 0 := by simpa using hi
    subst this; rfl
  | d :: D, 0, h, _, _, h2 => by
    have a : ¬ Lt d.1 e.1 := h2 d rfl
    unfold ins
    rw [if_neg a]
    by_cases b : d.1 = e.1
    · rw [if_pos b, if_pos (by simp [b])]; rfl
    · rw [if_neg b, if_neg (by simp [b])]; rfl
  | d :: D, i + 1, h, hi, h1, h2 => by
    have a : Lt d.1 e.1 := h1 0 (by omega) d rfl
    unfold ins
    rw [if_pos a, ins_at (i := i) (List.pairwise_cons.1 h).2 (by simpa using hi) (fun j hj x hx => h1 (j + 1) (by omega) x hx) (fun x hx => h2 x hx)]
    simp only [List.getElem?_cons_succ, List.take_succ_cons, List.cons_append]
    split <;> rfl
theorem canon_add {L : List Ety} {e : Ety} : canon (L ++ [e]) = ins (canon L) e := by unfold canon; rw [List.foldl_append]; rfl
theorem rev_ind {α : Type} {p : List α → Prop} (h0 : p []) (h1 : ∀ L e, p L → p (L ++ [e])) (L : List α) : p L := by
  have : ∀ M : List α, p M.reverse := fun M => by
    induction M with
    | nil => exact h0
    | cons a M ih => rw [List.reverse_cons]; exact h1 _ _ ih
  have := this L.reverse
  rwa [List.reverse_reverse] at this
theorem canon_ss (L : List Ety) : SS (canon L) := rev_ind (p := fun L => SS (canon L)) List.Pairwise.nil (fun L e h => by rw [canon_add]; exact ins_ss h) L
theorem mem_canon {x : Ety} (L : List Ety) : x ∈ canon L ↔ lst L x.1 = some x := by
  refine rev_ind (p := fun L => x ∈ canon L ↔ lst L x.1 = some x) (by simp [canon, lst]) (fun L e h => ?_) L
  rw [canon_add, mem_ins (canon_ss L), h, lst_add]
  by_cases a : e.1 = x.1
  · rw [if_pos a]
    constructor
    · rintro (rfl | ⟨_, b⟩)
      · rfl
      · exact absurd a.symm b
    · intro b; injection b with b; exact .inl b.symm
  · rw [if_neg a]
    constructor
    · rintro (rfl | ⟨b, _⟩)
      · exact absurd rfl a
      · exact b
    · intro b; exact .inr ⟨b, fun c => a c.symm⟩
theorem ss_ext : ∀ {D D' : List Ety}, SS D → SS D' → (∀ x, x ∈ D ↔ x ∈ D') → D = D'
  | [], [], _, _, _ => rfl
  | [], d :: D', _, _, h => by have := (h d).2 List.mem_cons_self; simp at this
  | d :: D, [], _, _, h => by have := (h d).1 List.mem_cons_self; simp at this
  | d :: D, d' :: D', h1, h2, h => by
    obtain ⟨a1, a2⟩ := List.pairwise_cons.1 h1
    obtain ⟨b1, b2⟩ := List.pairwise_cons.1 h2
    have e : d = d' := by
      rcases List.mem_cons.1 ((h d).1 List.mem_cons_self) with e | m
      · exact e
      · rcases List.mem_cons.1 ((h d').2 List.mem_cons_self) with e | m'
        · exact e.symm
        · exact absurd (a1 d' m') (b1 d m).asymm
    subst e
    refine congrArg _ (ss_ext a2 b2 fun x => ⟨fun m => ?_, fun m => ?_⟩)
    · rcases List.mem_cons.1 ((h x).1 (List.mem_cons_of_mem _ m)) with e | m'
      · subst e; exact absurd (a1 x m) (Lt.irrefl _)
      · exact m'
    · rcases List.mem_cons.1 ((h x).2 (List.mem_cons_of_mem _ m)) with e | m'
      · subst e; exact absurd (b1 x m) (Lt.irrefl _)
      · exact m'
/-- Of each key the last one, of a sorted list. -/
def kpl {α : Type} (f : α → List Nat) : List α → List α
  | [] => []
  | [x] => [x]
  | x :: y :: l => if f x = f y then kpl f (y :: l) else x :: kpl f (y :: l)
theorem kpl_sub {α : Type} {f : α → List Nat} {x : α} : ∀ {l : List α}, x ∈ kpl f l → x ∈ l
  | [], h => h
  | [_], h => h
  | a :: b :: l, h => by
    rw [kpl] at h
    split at h
    · exact List.mem_cons_of_mem _ (kpl_sub h)
    · rcases List.mem_cons.1 h with rfl | h
      · exact List.mem_cons_self
      · exact List.mem_cons_of_mem _ (kpl_sub h)
theorem kpl_map {α β : Type} {f : β → List Nat} {g : α → β} : ∀ {l : List α}, (kpl (fun x => f (g x)) l).map g = kpl f (l.map g)
  | [] => rfl
  | [_] => rfl
  | a :: b :: l => by
    have ih := kpl_map (f := f) (g := g) (l := b :: l)
    rw [kpl, List.map_cons, List.map_cons, kpl]
    split
    · exact ih
    · rw [List.map_cons, ih]; rfl
theorem kpl_drop {α : Type} {f : α → List Nat} {l : List α} {i : Nat} (hi : i < l.length) : kpl f (l.drop i) = if ∃ y, l[i + 1]? = some y ∧ f l[i] = f y then kpl f (l.drop (i + 1)) else l[i] :: kpl f (l.drop (i + 1)) := by
  rw [List.drop_eq_getElem_cons hi]
  cases h : l.drop (i + 1) with
  | nil =>
    have : l.length ≤ i + 1 := List.drop_eq_nil_iff.1 h
    rw [if_neg fun ⟨y, hy, _⟩ => by rw [List.getElem?_eq_none this] at hy; cases hy]; rfl
  | cons y m =>
    have e : l[i + 1]? = some y := by rw [← List.head?_drop, h]; rfl
    rw [kpl, e]
    by_cases k : f l[i] = f y
    · rw [if_pos k, if_pos ⟨y, rfl, k⟩]
    · rw [if_neg k, if_neg fun ⟨z, hz, hk⟩ => by cases hz; exact k hk]
theorem mem_kpl {x : Ety} : ∀ {l : List Ety}, Srt Prod.fst l → (x ∈ kpl Prod.fst l ↔ lst l x.1 = some x)
  | [], _ => by simp [kpl, lst]
  | [a], _ => by
    show x ∈ [a] ↔ lst ([] ++ [a]) x.1 = some x
    rw [lst_add]
    by_cases h : a.1 = x.1
    · rw [if_pos h]; simp [eq_comm]
    · rw [if_neg h]; simp only [List.mem_singleton]; exact ⟨fun e => absurd (e ▸ rfl) h, fun e => by simp [lst] at e⟩
  | a :: b :: l, h => by
    obtain ⟨h1, h2⟩ := List.pairwise_cons.1 h
    have ih := mem_kpl (x := x) h2
    rw [kpl]
    by_cases e : a.1 = b.1
    · rw [if_pos e, ih]
      unfold lst
      by_cases k : a.1 = x.1
      · rw [List.filter_cons_of_pos (l := b :: l) (by simp [k]), List.filter_cons_of_pos (by simp [← e, k]), List.getLast?_cons_cons]
      · rw [List.filter_cons_of_neg (l := b :: l) (by simp [k])]
    · rw [if_neg e, List.mem_cons, ih]
      have hab : Lt a.1 b.1 := (Lt.or (h1 b List.mem_cons_self)).resolve_right fun e' => e e'.symm
      have hall : ∀ y ∈ b :: l, Lt a.1 y.1 := fun y hy => by
        rcases List.mem_cons.1 hy with rfl | hy
        · exact hab
        · exact hab.ltle ((List.pairwise_cons.1 h2).1 y hy)
      by_cases k : a.1 = x.1
      · have hn : lst (b :: l) x.1 = none := lst_none fun y hy e' => (hall y hy).ne (k.trans e'.symm)
        rw [hn]
        unfold lst
        rw [List.filter_cons_of_pos (l := b :: l) (by simp [k]), List.filter_eq_nil_iff.2 fun y hy => by simpa using fun e' => (hall y hy).ne (k.trans e'.symm)]
        simp [eq_comm]
      · unfold lst
        rw [List.filter_cons_of_neg (l := b :: l) (by simp [k])]
        exact ⟨fun h => h.resolve_left fun e' => k (e' ▸ rfl), .inr⟩
theorem kpl_ss : ∀ {l : List Ety}, Srt Prod.fst l → SS (kpl Prod.fst l)
  | [], _ => List.Pairwise.nil
  | [a], _ => List.pairwise_singleton _ _
  | a :: b :: l, h => by
    obtain ⟨h1, h2⟩ := List.pairwise_cons.1 h
    rw [kpl]
    by_cases e : a.1 = b.1
    · rw [if_pos e]; exact kpl_ss h2
    · rw [if_neg e]
      have hab : Lt a.1 b.1 := (Lt.or (h1 b List.mem_cons_self)).resolve_right fun e' => e e'.symm
      refine List.pairwise_cons.2 ⟨fun y hy => ?_, kpl_ss h2⟩
      rcases List.mem_cons.1 (kpl_sub hy) with rfl | hy
      · exact hab
      · exact hab.ltle ((List.pairwise_cons.1 h2).1 y hy)
/-- A stable sort, of each key the last one: the map. -/
theorem sort_canon {α : Type} {g : α → Ety} {L l : List α} (h : Sta (fun x => (g x).1) L l) (o : Srt (fun x => (g x).1) l) : kpl Prod.fst (l.map g) = canon (L.map g) := by
  have o' : Srt Prod.fst (l.map g) := List.pairwise_map.2 o
  refine ss_ext (kpl_ss o') (canon_ss _) fun x => ?_
  rw [mem_kpl o', mem_canon]
  unfold lst
  have : ∀ m : List α, (m.map g).filter (fun y => decide (y.1 = x.1)) = (m.filter fun y => decide ((g y).1 = x.1)).map g := fun m => by rw [List.filter_map]; rfl
  rw [this, this, h x.1]
theorem lst_ss : ∀ {D : List Ety} {x : Ety}, SS D → x ∈ D → lst D x.1 = some x
  | d :: D, x, h, hx => by
    obtain ⟨h1, h2⟩ := List.pairwise_cons.1 h
    unfold lst
    rcases List.mem_cons.1 hx with rfl | hx
    · rw [List.filter_cons_of_pos (by simp), List.filter_eq_nil_iff.2 fun y hy => by simpa using fun e => (h1 y hy).ne e.symm]; rfl
    · rw [List.filter_cons_of_neg (by simpa using (h1 x hx).ne)]; exact lst_ss h2 hx
theorem canon_id {D : List Ety} (h : SS D) : canon D = D := ss_ext (canon_ss D) h fun x => by
  rw [mem_canon]
  exact ⟨fun e => (lst_key e).1, lst_ss h⟩
/-- One change: what has its key goes, and it comes, unless it is a going. -/
def chg (D : List Ety) (c : Ety) : List Ety := canon (D.filter (fun x => decide (x.1 ≠ c.1)) ++ if c.2 = [] then [] else [c])
theorem chgs_eq {E C : List Ety} (hE : SS E) (hv : ∀ x ∈ E, x.2 ≠ []) : C.foldl chg E = (canon (E ++ C)).filter fun x => decide (x.2 ≠ []) := by
  refine rev_ind (p := fun C => C.foldl chg E = (canon (E ++ C)).filter fun x => decide (x.2 ≠ [])) ?_ (fun C c ih => ?_) C
  · rw [List.append_nil, canon_id hE, List.filter_eq_self.2 fun x hx => by simpa using hv x hx]; rfl
  · rw [List.foldl_append, ih, ← List.append_assoc, canon_add]
    show chg _ c = _
    have hD := canon_ss (E ++ C)
    have hF : SS ((canon (E ++ C)).filter fun x => decide (x.2 ≠ [])) := hD.filter _
    refine ss_ext (canon_ss _) ((ins_ss hD).filter _) fun x => ?_
    rw [List.mem_filter, mem_ins hD]
    unfold chg
    have hG : SS (((canon (E ++ C)).filter fun x => decide (x.2 ≠ [])).filter fun x => decide (x.1 ≠ c.1)) := hF.filter _
    by_cases hc : c.2 = []
    · rw [if_pos hc, List.append_nil, canon_id hG, List.mem_filter, List.mem_filter]
      simp only [decide_eq_true_eq, ne_eq]
      constructor
      · rintro ⟨⟨a, b⟩, d⟩; exact ⟨.inr ⟨a, d⟩, b⟩
      · rintro ⟨rfl | ⟨a, d⟩, b⟩
        · exact absurd hc b
        · exact ⟨⟨a, b⟩, d⟩
    · rw [if_neg hc, canon_add, canon_id hG, mem_ins hG, List.mem_filter, List.mem_filter]
      simp only [decide_eq_true_eq, ne_eq]
      constructor
      · rintro (rfl | ⟨⟨⟨a, b⟩, d⟩, _⟩)
        · exact ⟨.inl rfl, hc⟩
        · exact ⟨.inr ⟨a, d⟩, b⟩
      · rintro ⟨rfl | ⟨a, d⟩, b⟩
        · exact .inl rfl
        · exact .inr ⟨⟨⟨a, b⟩, d⟩, d⟩
end Go.Sy
