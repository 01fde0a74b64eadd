import Derived.Test.YtledfigfokoiiaaSpq
/-
  A proof's bytes read loosely, as a function; a form is read as its list.
-/
namespace Go.Proofs.Ytledfigfokoiiaa
open Go.RowKit
theorem fold_ge (ds : List Nat) (q : Nat) : q ≤ ds.foldl (fun n x => n * 256 + x) q := by
  induction ds generalizing q with
  | nil => simp
  | cons d ds ih => rw [List.foldl_cons]; have := ih (q * 256 + d); omega
theorem spD_read (s : List Nat) : ∀ (ds : List Nat) (i q : Nat), At s i ds → i + ds.length ≤ s.length → ds.foldl (fun n x => n * 256 + x) q ≤ 131072 → spD s ds.length i q = some (ds.foldl (fun n x => n * 256 + x) q) := by
  intro ds
  induction ds with
  | nil => intro i q _ _ _; rfl
  | cons d ds ih =>
    intro i q ha hl hb
    rw [List.foldl_cons] at hb ⊢
    rw [List.length_cons] at hl ⊢
    have h1 := fold_ge ds (q * 256 + d)
    have h0 : gd s i = d := by
      have := ha 0 (by simp)
      rw [Nat.add_zero] at this
      exact this
    rw [spD, if_neg (by omega), h0, Nat.mul_comm 256 q]
    refine ih (i + 1) (q * 256 + d) (fun j hj => ?_) (by omega) hb
    have := ha (j + 1) (by simp; omega)
    rw [show i + 1 + j = i + (j + 1) by omega, this]
    rfl
theorem gd_hd (base n : Nat) (t : List Nat) : gd (hdr base n ++ t) 0 = if n < 56 then base + n else base + 55 + (digs n).length := by
  unfold hdr
  split <;> rfl
/-- a head is read -/
theorem spn_hdr {base n : Nat} {t : List Nat} {l : Bool} (hb : base = 128 ∨ base = 192) (hl : l = decide (base = 192)) (hn : n ≤ 131072) (ht : n ≤ t.length) : spn (hdr base n ++ t) l = ((hdr base n).length, (hdr base n).length + n, true) := by
  have d3 : (digs n).length ≤ 3 := digs_len_le (by omega)
  have hp := hdr_pos base n
  have ll : (hdr base n ++ t).length = (hdr base n).length + t.length := List.length_append
  have g0 := gd_hd base n t
  unfold spn
  by_cases h : n < 56
  · rw [if_pos h] at g0
    have e1 : (hdr base n).length = 1 := by unfold hdr; rw [if_pos h]; rfl
    have a1 : ¬ ((hdr base n ++ t).length = 0 ∨ decide (192 ≤ gd (hdr base n ++ t) 0) ≠ l) := by
      rintro (q | q)
      · omega
      · apply q
        rw [g0, hl]
        rcases hb with rfl | rfl
        · rw [decide_eq_false (by omega)]; rfl
        · rw [decide_eq_true (by omega)]; rfl
    have a2 : gd (hdr base n ++ t) 0 % 64 = n := by rw [g0]; rcases hb with rfl | rfl <;> omega
    rw [if_neg a1, if_neg (by rw [g0]; omega), a2, if_pos h, decide_eq_true (by omega), e1]
  · rw [if_neg h] at g0
    have e1 : (hdr base n).length = 1 + (digs n).length := by unfold hdr; rw [if_neg h, List.length_cons]; omega
    have dp := digs_len_pos (n := n) (by omega)
    have a1 : ¬ ((hdr base n ++ t).length = 0 ∨ decide (192 ≤ gd (hdr base n ++ t) 0) ≠ l) := by
      rintro (q | q)
      · omega
      · apply q
        rw [g0, hl]
        rcases hb with rfl | rfl
        · rw [decide_eq_false (by omega)]; rfl
        · rw [decide_eq_true (by omega)]; rfl
    have a2 : gd (hdr base n ++ t) 0 % 64 = 55 + (digs n).length := by rw [g0]; rcases hb with rfl | rfl <;> omega
    have a3 : spD (hdr base n ++ t) (digs n).length 1 0 = some n := by
      have : At (hdr base n ++ t) 1 (digs n) := fun j hj => by
        rw [gd_app_l (by omega)]
        unfold hdr
        rw [if_neg h, Nat.add_comm 1 j]
        rfl
      have k := spD_read (hdr base n ++ t) (digs n) 1 0 this (by omega) (by show num (digs n) ≤ _; rw [num_digs]; exact hn)
      rw [k]
      exact congrArg some (num_digs n)
    rw [if_neg a1, if_neg (by rw [g0]; omega), a2, if_neg (by omega), show 55 + (digs n).length - 55 = (digs n).length by omega, a3]
    dsimp only
    rw [show 55 + (digs n).length - 54 = (hdr base n).length by omega, decide_eq_true (by omega)]
theorem cut_app {u v : List Nat} {n : Nat} (h : n = u.length + v.length) (t : List Nat) : cut ((u ++ v) ++ t) u.length n = v := by
  unfold cut
  rw [List.take_append_of_le_length (by simp; omega), List.take_of_length_le (by simp; omega), List.drop_left]
/-- a string's form is read -/
theorem spn_str {x t : List Nat} (h : ok1 x = true) : ∃ lo, spn (form (.mk false x []) ++ t) false = (lo, (form (.mk false x [])).length, true) ∧ cut (form (.mk false x []) ++ t) lo (form (.mk false x [])).length = x := by
  obtain ⟨h1, h2⟩ := ok1_iff.1 h
  cases ha : alone x with
  | true =>
    have ef : form (.mk false x []) = x := by rw [form_mk]; simp [ha]
    have hb1 : x.length = 1 ∧ gd x 0 < 128 := by simpa [alone] using ha
    rw [ef]
    refine ⟨0, ?_, ?_⟩
    · have g0 : gd (x ++ t) 0 = gd x 0 := gd_app_l (by omega)
      unfold spn
      rw [if_neg (by
        rintro (q | q)
        · rw [List.length_append] at q; omega
        · apply q
          rw [g0, decide_eq_false (by omega)]), if_pos (by rw [g0]; exact hb1.2), hb1.1]
    · have := cut_app (u := []) (v := x) (n := x.length) (by simp) t
      simpa using this
  | false =>
    have ef : form (.mk false x []) = hdr 128 x.length ++ x := by rw [form_mk]; simp [ha]
    rw [ef]
    refine ⟨(hdr 128 x.length).length, ?_, cut_app (by rw [List.length_append]) t⟩
    rw [List.append_assoc, spn_hdr (Or.inl rfl) (by rfl) (by omega) (by rw [List.length_append]; omega), List.length_append]
/-- the strings, one by one -/
def rdS (s : List Nat) (z : Nat) : Nat → Nat → List (List Nat) → Option (List (List Nat))
  | 0, _, acc => some acc
  | f + 1, p, acc => if p < z then (if (spn (cut s p z) false).2.2 = true then rdS s z f (p + (spn (cut s p z) false).2.1) (acc ++ [cut s (p + (spn (cut s p z) false).1) (p + (spn (cut s p z) false).2.1)]) else none) else some acc
theorem cut_in {s : List Nat} {p z lo hi : Nat} (hz : z ≤ s.length) (h1 : p + hi ≤ z) : cut (cut s p z) lo hi = cut s (p + lo) (p + hi) := by
  have l1 : (cut s p z).length = z - p := cut_len hz
  refine ext_gd (by rw [cut_len (by omega), cut_len (by omega)]; omega) (fun i hi' => ?_)
  rw [cut_len (by omega)] at hi'
  rw [cut_gd (by omega), cut_gd (by omega), cut_gd (by omega)]
  congr 1
  omega
theorem rdS_form (s : List Nat) (z : Nat) (hz : z ≤ s.length) : ∀ (M : List (List Nat)) (f p : Nat) (acc : List (List Nat)), okL M = true → cut s p z = forms (its M) → p ≤ z → z - p ≤ f → rdS s z f p acc = some (acc ++ M) := by
  intro M
  induction M with
  | nil =>
    intro f p acc _ hc hp hf
    have : z - p = 0 := by
      have := congrArg List.length hc
      rw [cut_len hz] at this
      simpa [its, forms_nil] using this
    cases f with
    | zero => rw [rdS, List.append_nil]
    | succ f => rw [rdS, if_neg (by omega), List.append_nil]
  | cons x M ih =>
    intro f p acc hok hc hp hf
    have hx : ok1 x = true := by
      have := List.all_eq_true.1 hok x (by simp)
      exact this
    have hM : okL M = true := List.all_eq_true.2 (fun y hy => List.all_eq_true.1 hok y (by simp [hy]))
    have hc' : cut s p z = form (.mk false x []) ++ forms (its M) := by rw [hc]; show forms (.mk false x [] :: its M) = _; rw [forms_cons]
    have hl : z - p = (form (.mk false x [])).length + (forms (its M)).length := by
      have := congrArg List.length hc'
      rw [cut_len hz, List.length_append] at this
      exact this
    have fp := form_pos (.mk false x [])
    obtain ⟨lo, e1, e2⟩ := spn_str (t := forms (its M)) hx
    rw [← hc'] at e1 e2
    cases f with
    | zero => omega
    | succ f =>
      rw [rdS, if_pos (by omega), e1]
      dsimp only
      rw [if_pos rfl, ← cut_in hz (by omega), e2]
      rw [ih f (p + (form (.mk false x [])).length) (acc ++ [x]) hM ?_ (by omega) (by omega)]
      · rw [List.append_assoc]
        rfl
      · have : cut s (p + (form (.mk false x [])).length) z = (cut s p z).drop (form (.mk false x [])).length := by
          unfold cut
          rw [List.drop_drop]
        rw [this, hc', List.drop_left]
/-- the whole -/
def ruP (s : List Nat) : Option (List (List Nat)) := if (spn s true).2.2 = true ∧ s.length ≤ 131072 then rdS s (spn s true).2.1 ((spn s true).2.1 - (spn s true).1) (spn s true).1 [] else none
theorem ruP_lit {s : List Nat} {M : List (List Nat)} {B : List Nat} (hB : forms (its M) = B) (ef : s = hdr 192 B.length ++ B) (hl : s.length ≤ 131072) (hok : okL M = true) : ruP s = some M := by
  have ll : s.length = (hdr 192 B.length).length + B.length := by
    have := congrArg List.length ef
    rw [List.length_append] at this
    exact this
  have e1 : spn s true = ((hdr 192 B.length).length, s.length, true) := by
    have := spn_hdr (base := 192) (n := B.length) (t := B) (l := true) (Or.inr rfl) (by rfl) (by omega) (Nat.le_refl _)
    rw [← ef, ← ll] at this
    exact this
  have ed : s.drop (hdr 192 B.length).length = B := by
    have := congrArg (List.drop (hdr 192 B.length).length) ef
    rw [List.drop_left] at this
    exact this
  unfold ruP
  rw [e1]
  dsimp only
  rw [if_pos ⟨rfl, hl⟩]
  have := rdS_form s s.length (Nat.le_refl _) M (s.length - (hdr 192 B.length).length) (hdr 192 B.length).length [] hok (by
    unfold cut
    rw [List.take_length, ed, hB]) (by omega) (by omega)
  rw [this, List.nil_append]
theorem ruP_uf {s : List Nat} (hs : ∀ x ∈ s, x < 256) (h : ufE s = 0) : ruP s = some (uf s) := by
  obtain ⟨_, hf, hl⟩ := uf_lit hs h
  have hok : okL (uf s) = true := (pf_zero (uf_pf hs h).1).1
  refine ruP_lit (B := forms (its (uf s))) rfl ?_ hl hok
  unfold lit at hf
  rw [form_mk, if_pos rfl] at hf
  exact hf.symm
theorem ru_none {s : List Nat} (hs : ∀ x ∈ s, x < 256) (h : ruP s = none) : ufE s = 160 ∧ uf s = [] := by
  rcases uf_cases s with ⟨h0, _⟩ | h0
  · rw [ruP_uf hs h0] at h
    cases h
  · exact h0
theorem ru_bad {s : List Nat} {l : List (List Nat)} (hs : ∀ x ∈ s, x < 256) (h : ruP s = some l) (h2 : ¬ (pfE l = 0 ∧ pf l = s)) : ufE s = 160 ∧ uf s = [] := by
  rcases uf_cases s with ⟨h0, _⟩ | h0
  · rw [ruP_uf hs h0] at h
    injection h with h
    subst h
    exact absurd (uf_pf hs h0) h2
  · exact h0
theorem ru_ok {s : List Nat} {l : List (List Nat)} (h1 : pfE l = 0) (h2 : pf l = s) : ufE s = 0 ∧ uf s = l := by
  subst h2
  exact pf_uf h1
end Go.Proofs.Ytledfigfokoiiaa
