import Derived.Test.YtledfigfokoiiaaDcq
/-
  A proof's bytes, as functions: packed and unpacked.
-/
namespace Go.Proofs.Ytledfigfokoiiaa
open Go.RowKit
theorem dec_form {x : It} (hm : may x = true) (hd : dp x ≤ 80) (hl : (form x).length ≤ 1048576) : dec (form x) = .ok x := by
  unfold dec
  rw [if_neg (by omega), rd_form x (form x) 80 0 (form x).length hm hd hl (At.self _) (by omega) (Nat.le_refl _)]
  dsimp only
  rw [if_neg (by omega)]
theorem decXPE {s : List Nat} {x : It} (h : dec s = .ok x) : decX s = x ∧ decP s = 0 ∧ decE s = 0 := by
  unfold decX decP decE
  rw [h]
  exact ⟨rfl, rfl, rfl⟩
theorem rdE_pos (s : List Nat) (h : decE s = 0) : ∃ x, dec s = .ok x ∨ ∃ p, dec s = .bad p 0 := by
  unfold decE at h
  cases hd : dec s with
  | ok x => exact ⟨x, Or.inl rfl⟩
  | bad p e =>
    rw [hd] at h
    dsimp only at h
    subst h
    exact ⟨.mk false [] [], Or.inr ⟨p, rfl⟩⟩
/-- the items of a list of strings -/
def its (L : List (List Nat)) : List It := L.map (fun s => .mk false s [])
def lit (L : List (List Nat)) : It := .mk true [] (its L)
def ok1 (s : List Nat) : Bool := decide (0 < s.length) && decide (s.length ≤ 1024)
def okL (L : List (List Nat)) : Bool := L.all ok1
def tot : List (List Nat) → Nat
  | [] => 0
  | s :: L => s.length + tot L
theorem its_len (L : List (List Nat)) : (its L).length = L.length := by simp [its]
theorem its_at {L : List (List Nat)} {i : Nat} {x : It} (h : (its L)[i]? = some x) : ∃ s, L[i]? = some s ∧ x = .mk false s [] := by
  unfold its at h
  rw [List.getElem?_map] at h
  cases hs : L[i]? with
  | none => rw [hs] at h; cases h
  | some s =>
    rw [hs] at h
    exact ⟨s, rfl, (Option.some.inj h).symm⟩
theorem may_lit (L : List (List Nat)) : may (lit L) = true := by
  unfold lit
  rw [may_mk]
  simp only [if_true, List.isEmpty_nil, Bool.true_and]
  rw [mayL_iff]
  intro x hx
  obtain ⟨s, _, rfl⟩ := List.mem_map.1 hx
  rw [may_mk]
  rfl
theorem dp_lit (L : List (List Nat)) : dp (lit L) = 1 := by
  unfold lit
  rw [dp_mk, if_pos rfl]
  have : ∀ M : List (List Nat), dpL (its M) = 0 := by
    intro M
    induction M with
    | nil => exact dpL_nil
    | cons s M ih =>
      show dpL (.mk false s [] :: its M) = 0
      rw [dpL_cons, ih, dp_mk]
      rfl
  rw [this]
theorem tot_app (L M : List (List Nat)) : tot (L ++ M) = tot L + tot M := by
  induction L with
  | nil => simp [tot]
  | cons s L ih => rw [List.cons_append, tot, tot, ih]; omega
theorem tot_take {L : List (List Nat)} {k : Nat} {s : List Nat} (h : L[k]? = some s) : tot (L.take (k + 1)) = tot (L.take k) + s.length := by
  rw [List.take_add_one, h, tot_app]
  simp [tot]
theorem tot_take_le (L : List (List Nat)) (k : Nat) : tot (L.take k) ≤ tot L := by
  have := tot_app (L.take k) (L.drop k)
  rw [List.take_append_drop] at this
  omega
theorem form_str (s : List Nat) : s.length ≤ (form (.mk false s [])).length := by
  rw [form_mk]
  simp only [Bool.false_eq_true, if_false]
  split
  · omega
  · simp
theorem forms_tot (L : List (List Nat)) : tot L ≤ (forms (its L)).length := by
  induction L with
  | nil => simp [tot]
  | cons s L ih =>
    show _ ≤ (forms (.mk false s [] :: its L)).length
    rw [forms_cons, List.length_append, tot]
    have := form_str s
    omega
theorem forms_cnt (L : List (List Nat)) : L.length ≤ (forms (its L)).length := by
  induction L with
  | nil => simp
  | cons s L ih =>
    show _ ≤ (forms (.mk false s [] :: its L)).length
    rw [forms_cons, List.length_append, List.length_cons]
    have := form_pos (.mk false s [])
    omega
theorem lit_body (L : List (List Nat)) : (forms (its L)).length ≤ (form (lit L)).length := by
  unfold lit
  rw [form_mk, if_pos rfl, List.length_append]
  omega
theorem lit_tot (L : List (List Nat)) : tot L ≤ (form (lit L)).length := Nat.le_trans (forms_tot L) (lit_body L)
theorem lit_cnt (L : List (List Nat)) : L.length ≤ (form (lit L)).length := Nat.le_trans (forms_cnt L) (lit_body L)
/-- WHAT Pack ANSWERS -/
def pfE (L : List (List Nat)) : Nat := if okL L = true ∧ (form (lit L)).length ≤ 131072 then 0 else 2
def pf (L : List (List Nat)) : List Nat := if pfE L = 0 then form (lit L) else []
theorem pf_ok {L : List (List Nat)} (h1 : okL L = true) (h2 : (form (lit L)).length ≤ 131072) : pfE L = 0 ∧ pf L = form (lit L) := by
  have : pfE L = 0 := by unfold pfE; rw [if_pos ⟨h1, h2⟩]
  exact ⟨this, by unfold pf; rw [if_pos this]⟩
theorem pf_bad {L : List (List Nat)} (h : ¬ (okL L = true ∧ (form (lit L)).length ≤ 131072)) : pfE L = 2 ∧ pf L = [] := by
  have : pfE L = 2 := by unfold pfE; rw [if_neg h]
  exact ⟨this, by unfold pf; rw [this]; rfl⟩
theorem pf_zero {L : List (List Nat)} (h : pfE L = 0) : okL L = true ∧ (form (lit L)).length ≤ 131072 ∧ pf L = form (lit L) := by
  by_cases h' : okL L = true ∧ (form (lit L)).length ≤ 131072
  · exact ⟨h'.1, h'.2, (pf_ok h'.1 h'.2).2⟩
  · rw [(pf_bad h').1] at h; omega
theorem pf_cases (L : List (List Nat)) : (pfE L = 0 ∧ okL L = true ∧ (form (lit L)).length ≤ 131072 ∧ pf L = form (lit L)) ∨ (pfE L = 2 ∧ pf L = []) := by
  by_cases h' : okL L = true ∧ (form (lit L)).length ≤ 131072
  · exact Or.inl ⟨(pf_ok h'.1 h'.2).1, h'.1, h'.2, (pf_ok h'.1 h'.2).2⟩
  · exact Or.inr (pf_bad h')
theorem ok1_iff {s : List Nat} : ok1 s = true ↔ 0 < s.length ∧ s.length ≤ 1024 := by
  unfold ok1
  simp
theorem okL_at {L : List (List Nat)} (h : okL L = true) {i : Nat} {s : List Nat} (hs : L[i]? = some s) : 0 < s.length ∧ s.length ≤ 1024 :=
  ok1_iff.1 (List.all_eq_true.1 h s (List.mem_of_getElem? hs))
theorem okL_of {L : List (List Nat)} (h : ∀ (i : Nat) (s : List Nat), L[i]? = some s → ok1 s = true) : okL L = true :=
  List.all_eq_true.2 (fun s hs => by
    obtain ⟨i, hi, rfl⟩ := List.getElem_of_mem hs
    exact h i _ (List.getElem?_eq_getElem hi))
/-- refused at k -/
theorem pf_no1 {L : List (List Nat)} {k : Nat} {s : List Nat} (hs : L[k]? = some s) (h : ok1 s = false) : pfE L = 2 ∧ pf L = [] :=
  pf_bad (fun ⟨h1, _⟩ => by
    have := List.all_eq_true.1 h1 s (List.mem_of_getElem? hs)
    rw [h] at this
    cases this)
theorem pf_no2 {L : List (List Nat)} {k : Nat} (h : 131072 < tot (L.take k)) : pfE L = 2 ∧ pf L = [] :=
  pf_bad (fun ⟨_, h2⟩ => by
    have := tot_take_le L k
    have := lit_tot L
    omega)
theorem enc_lit (L : List (List Nat)) : (encE (lit L) = 0 ∧ enc (lit L) = form (lit L) ∧ (form (lit L)).length ≤ 1048576) ∨ (encE (lit L) = 54 ∧ enc (lit L) = [] ∧ 1048576 < (form (lit L)).length) := by
  by_cases h : 1048576 < (form (lit L)).length
  · right
    have e : encE (lit L) = 54 := by unfold encE; rw [dp_lit, may_lit, if_neg (by decide), if_neg (by decide), if_pos h]
    exact ⟨e, by unfold enc; rw [e]; rfl, h⟩
  · left
    have e : encE (lit L) = 0 := by unfold encE; rw [dp_lit, may_lit, if_neg (by decide), if_neg (by decide), if_neg h]
    exact ⟨e, by unfold enc; rw [if_pos e], by omega⟩
/-- WHAT Unpack ANSWERS -/
def okI (x : It) : Bool := !x.l && ok1 x.b
def ufE (s : List Nat) : Nat := if s.length ≤ 131072 ∧ decE s = 0 ∧ (decX s).l = true ∧ (decX s).xs.all okI = true then 0 else 160
def uf (s : List Nat) : List (List Nat) := if ufE s = 0 then (decX s).xs.map It.b else []
theorem uf_bad {s : List Nat} (h : ¬ (s.length ≤ 131072 ∧ decE s = 0 ∧ (decX s).l = true ∧ (decX s).xs.all okI = true)) : ufE s = 160 ∧ uf s = [] := by
  have : ufE s = 160 := by unfold ufE; rw [if_neg h]
  exact ⟨this, by unfold uf; rw [this]; rfl⟩
theorem uf_ok {s : List Nat} (h : s.length ≤ 131072 ∧ decE s = 0 ∧ (decX s).l = true ∧ (decX s).xs.all okI = true) : ufE s = 0 ∧ uf s = (decX s).xs.map It.b := by
  have : ufE s = 0 := by unfold ufE; rw [if_pos h]
  exact ⟨this, by unfold uf; rw [if_pos this]⟩
theorem uf_cases (s : List Nat) : (ufE s = 0 ∧ s.length ≤ 131072 ∧ decE s = 0 ∧ (decX s).l = true ∧ (decX s).xs.all okI = true ∧ uf s = (decX s).xs.map It.b) ∨ (ufE s = 160 ∧ uf s = []) := by
  by_cases h : s.length ≤ 131072 ∧ decE s = 0 ∧ (decX s).l = true ∧ (decX s).xs.all okI = true
  · exact Or.inl ⟨(uf_ok h).1, h.1, h.2.1, h.2.2.1, h.2.2.2, (uf_ok h).2⟩
  · exact Or.inr (uf_bad h)
theorem its_b (L : List (List Nat)) : (its L).map It.b = L := by
  unfold its
  rw [List.map_map]
  exact (List.map_congr_left (fun s _ => rfl)).trans (List.map_id L)
theorem its_okI (L : List (List Nat)) (h : okL L = true) : (its L).all okI = true := by
  refine List.all_eq_true.2 (fun x hx => ?_)
  obtain ⟨s, hs, rfl⟩ := List.mem_map.1 hx
  exact List.all_eq_true.1 h s hs
/-- there and back -/
theorem pf_uf {L : List (List Nat)} (h : pfE L = 0) : ufE (pf L) = 0 ∧ uf (pf L) = L := by
  obtain ⟨h1, h2, h3⟩ := pf_zero h
  obtain ⟨dX, dP, dE⟩ := decXPE (dec_form (may_lit L) (by rw [dp_lit]; omega) (by omega))
  rw [h3]
  have := uf_ok (s := form (lit L)) ⟨h2, dE, by rw [dX]; rfl, by rw [dX]; exact its_okI L h1⟩
  rw [dX] at this
  exact ⟨this.1, this.2.trans (its_b L)⟩
theorem its_of {xs : List It} (hm : mayL xs = true) (h : xs.all okI = true) : its (xs.map It.b) = xs := by
  unfold its
  rw [List.map_map]
  refine (List.map_congr_left (g := id) (fun x hx => ?_)).trans (List.map_id xs)
  have k := List.all_eq_true.1 h x hx
  have m := (mayL_iff xs).1 hm x hx
  obtain ⟨l, b, ys⟩ := x
  unfold okI at k
  simp only [Bool.and_eq_true, Bool.not_eq_true'] at k
  have e : l = false := k.1
  subst e
  rw [may_mk] at m
  simp only [Bool.false_eq_true, if_false, List.isEmpty_iff] at m
  subst m
  rfl
theorem lit_of {x : It} (h3 : x.l = true) (hm : may x = true) (h4 : x.xs.all okI = true) : x = lit (x.xs.map It.b) := by
  obtain ⟨l, b, xs⟩ := x
  have el : l = true := h3
  subst el
  rw [may_mk] at hm
  simp only [if_true, Bool.and_eq_true, List.isEmpty_iff] at hm
  obtain ⟨rfl, hm⟩ := hm
  show It.mk true [] xs = .mk true [] (its (xs.map It.b))
  rw [its_of hm h4]
theorem dec_may {s : List Nat} (hs : ∀ x ∈ s, x < 256) (h : decE s = 0) : (∃ p, dec s = .bad p 0) ∨ (may (decX s) = true ∧ form (decX s) = s) := by
  obtain ⟨x, hx | ⟨p, hx⟩⟩ := rdE_pos s h
  · right
    rw [(decXPE hx).1]
    unfold dec at hx
    split at hx
    · cases hx
    · cases hr : rd s 80 0 s.length with
      | bad q c => rw [hr] at hx; cases hx
      | ok x' z =>
        rw [hr] at hx
        dsimp only at hx
        split at hx
        · cases hx
        · injection hx with e
          subst e
          obtain ⟨k1, k2, k3, k4, k5⟩ := rd_ok hs 80 0 s.length x' z (Nat.le_refl _) (by omega) hr
          have e1 : z = s.length := by omega
          subst e1
          rw [cut_all] at k5
          exact ⟨k3, k5⟩
  · exact Or.inl ⟨p, hx⟩
theorem uf_lit {s : List Nat} (hs : ∀ x ∈ s, x < 256) (h : ufE s = 0) : decX s = lit (uf s) ∧ form (lit (uf s)) = s ∧ s.length ≤ 131072 := by
  rcases uf_cases s with ⟨_, h1, h2, h3, h4, h5⟩ | ⟨h1, _⟩
  · rcases dec_may hs h2 with ⟨p, hp⟩ | ⟨hm, hf⟩
    · exfalso
      unfold decX at h3
      rw [hp] at h3
      cases h3
    · have e : decX s = lit (uf s) := by
        rw [h5]
        exact lit_of h3 hm h4
      rw [← e]
      exact ⟨rfl, hf, h1⟩
  · omega
theorem uf_pf {s : List Nat} (hs : ∀ x ∈ s, x < 256) (h : ufE s = 0) : pfE (uf s) = 0 ∧ pf (uf s) = s := by
  obtain ⟨e, hf, hl⟩ := uf_lit hs h
  have h4 : okL (uf s) = true := by
    rcases uf_cases s with ⟨_, _, _, _, h4, _⟩ | ⟨h1, _⟩
    · rw [e] at h4
      refine List.all_eq_true.2 (fun t ht => ?_)
      have := List.all_eq_true.1 h4 (.mk false t []) (List.mem_map.2 ⟨t, ht, rfl⟩)
      exact this
    · omega
  have := pf_ok h4 (by rw [hf]; exact hl)
  rw [hf] at this
  exact this
theorem uf_cnt {s : List Nat} (hs : ∀ x ∈ s, x < 256) : (uf s).length ≤ 131072 := by
  rcases uf_cases s with ⟨h, _⟩ | ⟨_, h⟩
  · obtain ⟨_, hf, hl⟩ := uf_lit hs h
    have := lit_cnt (uf s)
    rw [hf] at this
    omega
  · rw [h]; simp
end Go.Proofs.Ytledfigfokoiiaa
