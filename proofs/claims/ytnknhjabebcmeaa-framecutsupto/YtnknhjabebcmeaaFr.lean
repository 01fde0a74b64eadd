/-
  Frames, as lists: a frame of bytes, what stands first in bytes, the frames of bytes one behind the other.
-/
import Derived.Test.YtnknhjabebcmeaaLst
namespace Go.Proofs.Ytnknhjabebcmeaa

/-- what stands ahead of n bytes -/
def hd7 (n : Nat) : List Nat := [202, n / 65536, n / 256 % 256, n % 256, 255 - n / 65536, 255 - n / 256 % 256, 255 - n % 256]
theorem hd7_len (n : Nat) : (hd7 n).length = 7 := rfl
def frm (s : List Nat) : List Nat := hd7 s.length ++ s
theorem frm_len (s : List Nat) : (frm s).length = 7 + s.length := by unfold frm; rw [List.length_append, hd7_len]
def wrE (s : List Nat) : Nat := if s.length ≤ 16384 then 0 else 2
def wrR (s : List Nat) : List Nat := if s.length ≤ 16384 then frm s else []
theorem hd7_bytes {n : Nat} (h : n ≤ 16384) : ∀ x ∈ hd7 n, x < 256 := fun x hx => by
  simp only [hd7, List.mem_cons, List.not_mem_nil, or_false] at hx
  omega
theorem frm_bytes {s : List Nat} (hs : ∀ x ∈ s, x < 256) (h : s.length ≤ 16384) : ∀ x ∈ frm s, x < 256 := fun x hx => by
  rcases List.mem_append.1 hx with q | q
  · exact hd7_bytes h x q
  · exact hs x q
theorem wrR_ok {s : List Nat} (hs : ∀ x ∈ s, x < 256) : (∀ x ∈ wrR s, x < 256) ∧ (wrR s).length ≤ 16391 := by
  unfold wrR
  split
  · next h => exact ⟨frm_bytes hs h, by rw [frm_len]; omega⟩
  · exact ⟨(fun x hx => by cases hx), by simp⟩

/-- the length that stands in a head -/
def lnF (b : List Nat) : Nat := gd b 1 * 65536 + gd b 2 * 256 + gd b 3
def okH (b : List Nat) : Prop := gd b 4 + gd b 1 = 255 ∧ gd b 5 + gd b 2 = 255 ∧ gd b 6 + gd b 3 = 255 ∧ lnF b ≤ 16384
instance (b : List Nat) : Decidable (okH b) := by unfold okH; infer_instance
/-- P9.3: why no frame stands first (0: one does) -/
def fE (b : List Nat) : Nat :=
  if b.length = 0 then 91 else if gd b 0 ≠ 202 then 90 else if b.length < 7 then 91 else if ¬ okH b then 90 else if b.length < 7 + lnF b then 91 else 0
def fP (b : List Nat) : List Nat := if fE b = 0 then (b.drop 7).take (lnF b) else []
def fN (b : List Nat) : Nat := if fE b = 0 then 7 + lnF b else 0

theorem fE_zero {b : List Nat} (h : fE b = 0) : gd b 0 = 202 ∧ okH b ∧ 7 + lnF b ≤ b.length := by
  unfold fE at h
  split at h
  · cases h
  split at h
  · cases h
  split at h
  · cases h
  split at h
  · cases h
  split at h
  · cases h
  next h1 h2 h3 h4 h5 =>
    have e : gd b 0 = 202 := Decidable.byContradiction h2
    have e2 : okH b := Decidable.byContradiction h4
    exact ⟨e, e2, by omega⟩
theorem fE_of {b : List Nat} (h0 : gd b 0 = 202) (h1 : okH b) (h2 : 7 + lnF b ≤ b.length) : fE b = 0 := by
  unfold fE
  rw [if_neg (by omega), if_neg (fun h => h h0), if_neg (by omega), if_neg (fun h => h h1), if_neg (by omega)]
theorem fP_len {b : List Nat} (h : fE b = 0) : (fP b).length = lnF b := by
  have := (fE_zero h).2.2
  unfold fP
  rw [if_pos h]
  simp
  omega
theorem fP_le {b : List Nat} : (fP b).length ≤ 16384 := by
  by_cases h : fE b = 0
  · rw [fP_len h]; exact (fE_zero h).2.1.2.2.2
  · unfold fP; rw [if_neg h]; simp
theorem fN_le {b : List Nat} : fN b ≤ b.length := by
  unfold fN
  split
  · next h => exact (fE_zero h).2.2
  · omega
theorem fP_bytes {b : List Nat} (hb : ∀ x ∈ b, x < 256) : ∀ x ∈ fP b, x < 256 := fun x hx => by
  unfold fP at hx
  split at hx
  · exact hb x (List.mem_of_mem_drop (List.mem_of_mem_take hx))
  · cases hx
/-- a frame that stands first, wrapped again -/
theorem take_frm {b : List Nat} (h : fE b = 0) : b.take (fN b) = frm (fP b) := by
  obtain ⟨h0, ⟨h4, h5, h6, h7⟩, h2⟩ := fE_zero h
  have hl := fP_len h
  have hN : fN b = 7 + lnF b := by unfold fN; rw [if_pos h]
  rw [hN]
  have e : lnF b = gd b 1 * 65536 + gd b 2 * 256 + gd b 3 := rfl
  have b1 : gd b 1 < 256 := by omega
  have b2 : gd b 2 < 256 := by omega
  have b3 : gd b 3 < 256 := by omega
  have eh : b.take 7 = hd7 (lnF b) := by
    refine ext_gd (by simp [hd7]; omega) (fun i hi => ?_)
    have hi7 : i < 7 := by simp at hi; omega
    have eg : gd (b.take 7) i = gd b i := by
      unfold gd
      rw [List.getD_eq_getElem?_getD, List.getD_eq_getElem?_getD, List.getElem?_take, if_pos hi7]
    rw [eg]
    have q : i = 0 ∨ i = 1 ∨ i = 2 ∨ i = 3 ∨ i = 4 ∨ i = 5 ∨ i = 6 := by omega
    rcases q with rfl | rfl | rfl | rfl | rfl | rfl | rfl
    · exact h0
    · show gd b 1 = lnF b / 65536; omega
    · show gd b 2 = lnF b / 256 % 256; omega
    · show gd b 3 = lnF b % 256; omega
    · show gd b 4 = 255 - lnF b / 65536; omega
    · show gd b 5 = 255 - lnF b / 256 % 256; omega
    · show gd b 6 = 255 - lnF b % 256; omega
  unfold frm
  rw [hl, ← eh]
  unfold fP
  rw [if_pos h, List.take_add]
theorem gd_frm {s t : List Nat} : gd (frm s ++ t) 0 = 202 ∧ gd (frm s ++ t) 1 = s.length / 65536 ∧ gd (frm s ++ t) 2 = s.length / 256 % 256 ∧ gd (frm s ++ t) 3 = s.length % 256 ∧ gd (frm s ++ t) 4 = 255 - s.length / 65536 ∧ gd (frm s ++ t) 5 = 255 - s.length / 256 % 256 ∧ gd (frm s ++ t) 6 = 255 - s.length % 256 := ⟨rfl, rfl, rfl, rfl, rfl, rfl, rfl⟩
theorem frm_first {s t : List Nat} (h : s.length ≤ 16384) : fE (frm s ++ t) = 0 ∧ fP (frm s ++ t) = s ∧ fN (frm s ++ t) = 7 + s.length := by
  obtain ⟨g0, g1, g2, g3, g4, g5, g6⟩ := gd_frm (s := s) (t := t)
  have hl : lnF (frm s ++ t) = s.length := by unfold lnF; rw [g1, g2, g3]; omega
  have e : fE (frm s ++ t) = 0 := fE_of g0 ⟨by rw [g4, g1]; omega, by rw [g5, g2]; omega, by rw [g6, g3]; omega, by rw [hl]; exact h⟩ (by rw [hl, List.length_append, frm_len]; omega)
  refine ⟨e, ?_, by unfold fN; rw [if_pos e, hl]⟩
  unfold fP
  rw [if_pos e, hl]
  show ((hd7 s.length ++ s ++ t).drop 7).take s.length = s
  rw [List.append_assoc, show (7 : Nat) = (hd7 s.length).length from rfl, List.drop_left, List.take_left]
/-- a frame that is cut off -/
theorem frm_cut {s : List Nat} (h : s.length ≤ 16384) {k : Nat} (hk : k < 7 + s.length) : fE ((frm s).take k) = 91 := by
  have hlen : ((frm s).take k).length = k := by rw [List.length_take, frm_len]; omega
  have eg : ∀ i, i < k → gd ((frm s).take k) i = gd (frm s) i := fun i hi => by
    unfold gd
    rw [List.getD_eq_getElem?_getD, List.getD_eq_getElem?_getD, List.getElem?_take, if_pos hi]
  obtain ⟨g0, g1, g2, g3, g4, g5, g6⟩ := gd_frm (s := s) (t := [])
  rw [List.append_nil] at g0 g1 g2 g3 g4 g5 g6
  unfold fE
  rw [hlen]
  by_cases h0 : k = 0
  · rw [if_pos h0]
  rw [if_neg h0, if_neg (by rw [eg 0 (by omega)]; exact fun q => q g0)]
  by_cases h7 : k < 7
  · rw [if_pos h7]
  have hl : lnF ((frm s).take k) = s.length := by
    unfold lnF
    rw [eg 1 (by omega), eg 2 (by omega), eg 3 (by omega), g1, g2, g3]
    omega
  rw [if_neg h7, if_neg, if_pos (by rw [hl]; exact hk)]
  intro q
  apply q
  unfold okH
  rw [hl, eg 1 (by omega), eg 2 (by omega), eg 3 (by omega), eg 4 (by omega), eg 5 (by omega), eg 6 (by omega), g1, g2, g3, g4, g5, g6]
  omega

/-! ### one behind the other -/
def scF : Nat → List Nat → List (List Nat) × Nat
  | 0, _ => ([], 0)
  | k + 1, b => if b.length = 0 then ([], 0) else if fE b = 0 then (fP b :: (scF k (b.drop (fN b))).1, (scF k (b.drop (fN b))).2) else ([], fE b)
theorem fN_pos {b : List Nat} (h : fE b = 0) : 7 ≤ fN b := by unfold fN; rw [if_pos h]; omega
theorem scF_more : ∀ (k : Nat) (b : List Nat), b.length ≤ k → scF k b = scF b.length b
  | 0, b, h => by have : b.length = 0 := by omega
                  rw [this]
  | k + 1, b, h => by
    by_cases h0 : b.length = 0
    · rw [h0]; unfold scF; rw [if_pos h0]
    · obtain ⟨m, hm⟩ : ∃ m, b.length = m + 1 := ⟨b.length - 1, by omega⟩
      rw [hm]
      unfold scF
      rw [if_neg h0]
      by_cases he : fE b = 0
      · have hn := fN_pos he
        have hd : (b.drop (fN b)).length = b.length - fN b := List.length_drop
        rw [if_pos he, if_pos he, if_neg h0, scF_more k _ (by omega), scF_more m _ (by omega)]
      · rw [if_neg he, if_neg he, if_neg h0]
  termination_by k => k
/-- P9.4 -/
def scP (b : List Nat) : List (List Nat) := (scF b.length b).1
def scE (b : List Nat) : Nat := (scF b.length b).2
theorem sc_nil : scP [] = [] ∧ scE [] = 0 := ⟨rfl, rfl⟩
theorem sc_empty {b : List Nat} (h : b.length = 0) : scP b = [] ∧ scE b = 0 := by rw [List.length_eq_zero_iff.1 h]; exact sc_nil
theorem sc_next {b : List Nat} (h : fE b = 0) : scP b = fP b :: scP (b.drop (fN b)) ∧ scE b = scE (b.drop (fN b)) := by
  have hn := fN_pos h
  have hle := fN_le (b := b)
  obtain ⟨m, hm⟩ : ∃ m, b.length = m + 1 := ⟨b.length - 1, by omega⟩
  have hd : (b.drop (fN b)).length = b.length - fN b := List.length_drop
  unfold scP scE
  rw [hm]
  rw [show scF (m + 1) b = (fP b :: (scF m (b.drop (fN b))).1, (scF m (b.drop (fN b))).2) by
    rw [scF, if_neg (by omega), if_pos h]]
  rw [scF_more m (b.drop (fN b)) (by omega)]
  exact ⟨rfl, rfl⟩
theorem sc_stop {b : List Nat} (h0 : b.length ≠ 0) (h : fE b ≠ 0) : scP b = [] ∧ scE b = fE b := by
  obtain ⟨m, hm⟩ : ∃ m, b.length = m + 1 := ⟨b.length - 1, by omega⟩
  unfold scP scE
  rw [hm, show scF (m + 1) b = ([], fE b) by rw [scF, if_neg (by omega), if_neg h]]
  exact ⟨rfl, rfl⟩
/-- where each frame ends, the first beginning at a -/
def edF : Nat → List (List Nat) → List Nat
  | _, [] => []
  | a, p :: l => (a + (7 + p.length)) :: edF (a + (7 + p.length)) l
def tot : List (List Nat) → Nat
  | [] => 0
  | p :: l => 7 + p.length + tot l
theorem edF_len (a : Nat) (l : List (List Nat)) : (edF a l).length = l.length := by
  induction l generalizing a with
  | nil => rfl
  | cons p l ih => simp [edF, ih]
theorem edF_app (a : Nat) (l m : List (List Nat)) : edF a (l ++ m) = edF a l ++ edF (a + tot l) m := by
  induction l generalizing a with
  | nil => simp [edF, tot]
  | cons p l ih => simp only [List.cons_append, edF, tot]; rw [ih]; simp [Nat.add_assoc]
theorem tot_app (l m : List (List Nat)) : tot (l ++ m) = tot l + tot m := by
  induction l with
  | nil => simp [tot]
  | cons p l ih => simp only [List.cons_append, tot]; rw [ih]; omega
/-- frames one behind the other -/
def flat : List (List Nat) → List Nat
  | [] => []
  | p :: l => frm p ++ flat l
theorem flat_len (l : List (List Nat)) : (flat l).length = tot l := by
  induction l with
  | nil => rfl
  | cons p l ih => simp only [flat, tot, List.length_append, frm_len, ih]
theorem flat_app (l m : List (List Nat)) : flat (l ++ m) = flat l ++ flat m := by
  induction l with
  | nil => rfl
  | cons p l ih => simp only [List.cons_append, flat]; rw [ih, List.append_assoc]
/-- P9.6, its first part: frames are told first, whatever stands behind them -/
theorem sc_flat (l : List (List Nat)) (hl : ∀ p ∈ l, p.length ≤ 16384) (t : List Nat) : scP (flat l ++ t) = l ++ scP t ∧ scE (flat l ++ t) = scE t := by
  induction l with
  | nil => exact ⟨rfl, rfl⟩
  | cons p l ih =>
    obtain ⟨i1, i2⟩ := ih (fun q hq => hl q (List.mem_cons_of_mem _ hq))
    obtain ⟨e, e1, e2⟩ := frm_first (s := p) (t := flat l ++ t) (hl p (List.mem_cons_self ..))
    have ed : (frm p ++ (flat l ++ t)).drop (fN (frm p ++ (flat l ++ t))) = flat l ++ t := by rw [e2, ← frm_len p, List.drop_left]
    obtain ⟨j1, j2⟩ := sc_next e
    rw [e1, ed] at j1
    rw [ed] at j2
    show scP ((frm p ++ flat l) ++ t) = p :: (l ++ scP t) ∧ _
    rw [List.append_assoc, j1, i1]
    exact ⟨rfl, by show scE ((frm p ++ flat l) ++ t) = _; rw [List.append_assoc, j2, i2]⟩
/-- its second part: what is told, wrapped again, is the bytes' head -/
theorem sc_back : ∀ (n : Nat) (b : List Nat), b.length ≤ n → (∀ p ∈ scP b, p.length ≤ 16384) ∧ flat (scP b) = b.take (tot (scP b)) ∧ tot (scP b) ≤ b.length
  | 0, b, h => by rw [(sc_empty (b := b) (by omega)).1]; exact ⟨(fun p hp => by cases hp), by simp [flat, tot], by simp [tot]⟩
  | n + 1, b, h => by
    by_cases h0 : b.length = 0
    · rw [(sc_empty h0).1]; exact ⟨(fun p hp => by cases hp), by simp [flat, tot], by simp [tot]⟩
    by_cases he : fE b = 0
    · have hn := fN_pos he
      have hle := fN_le (b := b)
      have hd : (b.drop (fN b)).length = b.length - fN b := List.length_drop
      obtain ⟨i1, i2, i3⟩ := sc_back n (b.drop (fN b)) (by omega)
      have hN : fN b = 7 + (fP b).length := by rw [fP_len he]; unfold fN; rw [if_pos he]
      rw [(sc_next he).1]
      refine ⟨fun p hp => ?_, ?_, ?_⟩
      · rcases List.mem_cons.1 hp with rfl | q
        · exact fP_le
        · exact i1 p q
      · show frm (fP b) ++ flat (scP (b.drop (fN b))) = b.take (7 + (fP b).length + tot (scP (b.drop (fN b))))
        rw [i2, ← take_frm he, ← hN, List.take_add]
      · show 7 + (fP b).length + _ ≤ _
        omega
    · rw [(sc_stop h0 he).1]; exact ⟨(fun p hp => by cases hp), by simp [flat, tot], by simp [tot]⟩
/-- P9.5: a log that is cut off -/
theorem sc_cut (l : List (List Nat)) (hl : ∀ p ∈ l, p.length ≤ 16384) : ∀ (k : Nat), k ≤ tot l → ∃ m, m ≤ l.length ∧ scP ((flat l).take k) = l.take m ∧ tot (l.take m) ≤ k ∧ (m < l.length → k < tot (l.take (m + 1))) ∧ scE ((flat l).take k) = (if k = tot (l.take m) then 0 else 91) := by
  induction l with
  | nil =>
    intro k hk
    have : k = 0 := by simpa [tot] using hk
    subst this
    exact ⟨0, by simp, rfl, by simp [tot], fun h => by simp at h, rfl⟩
  | cons p l ih =>
    intro k hk
    have hp := hl p (List.mem_cons_self ..)
    by_cases q : k < 7 + p.length
    · refine ⟨0, by simp, ?_⟩
      have et : (flat (p :: l)).take k = (frm p).take k := by
        show (frm p ++ flat l).take k = _
        rw [List.take_append_of_le_length (by rw [frm_len]; omega)]
      rw [et]
      by_cases k0 : k = 0
      · subst k0
        simp [tot, sc_nil]
        omega
      · have hc := frm_cut hp q
        have hlen : ((frm p).take k).length ≠ 0 := by rw [List.length_take, frm_len]; omega
        obtain ⟨s1, s2⟩ := sc_stop hlen (by rw [hc]; omega)
        rw [s1, s2, hc]
        simp [tot]
        exact ⟨q, k0⟩
    · obtain ⟨m, hm, e1, e2, e3, e4⟩ := ih (fun q hq => hl q (List.mem_cons_of_mem _ hq)) (k - (7 + p.length)) (by simp only [tot] at hk; omega)
      have et : (flat (p :: l)).take k = flat [p] ++ (flat l).take (k - (7 + p.length)) := by
        show (frm p ++ flat l).take k = (frm p ++ []) ++ _
        rw [List.take_append, List.append_nil, frm_len, List.take_of_length_le (by rw [frm_len]; omega)]
      obtain ⟨j1, j2⟩ := sc_flat [p] (fun q hq => by simp at hq; subst hq; exact hp) ((flat l).take (k - (7 + p.length)))
      refine ⟨m + 1, by simp; omega, ?_, ?_, ?_, ?_⟩
      · rw [et, j1, e1]; rfl
      · simp only [List.take_succ_cons, tot]; omega
      · intro h
        simp only [List.length_cons] at h
        have := e3 (by omega)
        simp only [List.take_succ_cons, tot] at this ⊢
        omega
      · rw [et, j2, e4]
        simp only [List.take_succ_cons, tot]
        by_cases z : k - (7 + p.length) = tot (l.take m)
        · rw [if_pos z, if_pos (by omega)]
        · rw [if_neg z, if_neg (by omega)]
end Go.Proofs.Ytnknhjabebcmeaa
