import Derived.Test.YtpiinkfcaoaffaaMemzz
/-
  Lists of numbers told by the index; a path's form, and the path of a form. No program.
-/
namespace Go.Proofs.Ytpiinkfcaoaffaa
theorem gd_out {s : List Nat} {i : Nat} (h : s.length ≤ i) : gd s i = 0 := by
  unfold gd
  rw [List.getD_eq_getElem?_getD, List.getElem?_eq_none h]
  rfl
theorem lst_congr {n : Nat} {Y Z : Nat → Nat} (h : ∀ i, i < n → Y i = Z i) : lst n Y = lst n Z := ext_gd (by rw [lst_len, lst_len]) (fun i hi => by
  rw [lst_len] at hi
  rw [lst_gd hi, lst_gd hi, h i hi])
/-! ### a path, its form -/
/-- P6.1 -/
def IsP (s : List Nat) : Prop := s.length ≤ 64 ∧ ∀ i, i < s.length → gd s i ≤ 15
instance (s : List Nat) : Decidable (IsP s) := by unfold IsP; infer_instance
/-- the nibbles with the flag ahead of them -/
def pn (leaf : Bool) (s : List Nat) (j : Nat) : Nat :=
  if j = 0 then (if leaf then 2 else 0) + s.length % 2 else if j = 1 ∧ s.length % 2 = 0 then 0 else gd s (j - (2 - s.length % 2))
def pkY (leaf : Bool) (s : List Nat) (i : Nat) : Nat := 16 * pn leaf s (2 * i) + pn leaf s (2 * i + 1)
def pkL (leaf : Bool) (s : List Nat) : List Nat := lst (1 + s.length / 2) (pkY leaf s)
/-- the nibbles of bytes -/
def nib (b : List Nat) (j : Nat) : Nat := if j % 2 = 0 then gd b (j / 2) / 16 else gd b (j / 2) % 16
/-- 1: the path is odd -/
def od (b : List Nat) : Nat := gd b 0 / 16 % 2
def plen (b : List Nat) : Nat := 2 * (b.length - 1) + od b
def upY (b : List Nat) (i : Nat) : Nat := nib b (i + (2 - od b))
def upL (b : List Nat) : List Nat := lst (plen b) (upY b)
/-- bytes that are a form -/
def IsF (b : List Nat) : Prop := 0 < b.length ∧ gd b 0 < 64 ∧ (od b = 0 → gd b 0 % 16 = 0) ∧ plen b ≤ 64
instance (b : List Nat) : Decidable (IsF b) := by unfold IsF; infer_instance
def lf (b : List Nat) : Bool := decide (32 ≤ gd b 0)
theorem od_lt (b : List Nat) : od b < 2 := Nat.mod_lt _ (by decide)
theorem pkL_len (leaf : Bool) (s : List Nat) : (pkL leaf s).length = 1 + s.length / 2 := lst_len _ _
theorem upL_len (b : List Nat) : (upL b).length = plen b := lst_len _ _
theorem nib_le {b : List Nat} (h : ∀ x ∈ b, x < 256) (j : Nat) : nib b j ≤ 15 := by
  have k : gd b (j / 2) < 256 := by
    by_cases q : j / 2 < b.length
    · rw [← gd_get q]; exact h _ (List.getElem_mem q)
    · rw [gd_out (by omega)]; decide
  unfold nib
  split <;> omega
theorem pn_le (leaf : Bool) {s : List Nat} (h : ∀ i, i < s.length → gd s i ≤ 15) (j : Nat) : pn leaf s j ≤ 15 := by
  have h' : ∀ i, gd s i ≤ 15 := fun i => by
    by_cases q : i < s.length
    · exact h i q
    · rw [gd_out (by omega)]; decide
  unfold pn
  split
  · cases leaf <;> simp <;> omega
  · split
    · omega
    · exact h' _
theorem pkL_gd {leaf : Bool} {s : List Nat} {i : Nat} (h : i < 1 + s.length / 2) : gd (pkL leaf s) i = pkY leaf s i := lst_gd h
theorem nib_pk (leaf : Bool) {s : List Nat} (h : ∀ i, i < s.length → gd s i ≤ 15) {j : Nat} (hj : j < 2 * (1 + s.length / 2)) : nib (pkL leaf s) j = pn leaf s j := by
  unfold nib
  rw [pkL_gd (by omega)]
  unfold pkY
  have h1 := pn_le leaf h (2 * (j / 2))
  have h2 := pn_le leaf h (2 * (j / 2) + 1)
  by_cases q : j % 2 = 0
  · obtain ⟨k, rfl⟩ : ∃ k, j = 2 * k := ⟨j / 2, by omega⟩
    rw [if_pos q]
    rw [show 2 * k / 2 = k by omega] at h1 h2 ⊢
    omega
  · obtain ⟨k, rfl⟩ : ∃ k, j = 2 * k + 1 := ⟨j / 2, by omega⟩
    rw [if_neg q]
    rw [show (2 * k + 1) / 2 = k by omega] at h1 h2 ⊢
    omega
theorem pkY_lt (leaf : Bool) {s : List Nat} (h : ∀ i, i < s.length → gd s i ≤ 15) (i : Nat) : pkY leaf s i < 256 := by
  have h1 := pn_le leaf h (2 * i)
  have h2 := pn_le leaf h (2 * i + 1)
  unfold pkY
  omega
theorem pk_bytes (leaf : Bool) {s : List Nat} (h : ∀ i, i < s.length → gd s i ≤ 15) : ∀ x ∈ pkL leaf s, x < 256 := fun x hx => by
  unfold pkL lst at hx
  obtain ⟨i, -, rfl⟩ := List.mem_map.1 hx
  exact pkY_lt leaf h i
theorem up_bytes {b : List Nat} (h : ∀ x ∈ b, x < 256) : ∀ x ∈ upL b, x ≤ 15 := fun x hx => by
  unfold upL lst at hx
  obtain ⟨i, -, rfl⟩ := List.mem_map.1 hx
  exact nib_le h _
theorem pn_zero (leaf : Bool) (s : List Nat) : pn leaf s 0 = (if leaf then 2 else 0) + s.length % 2 := by unfold pn; rw [if_pos rfl]
theorem pn_one (leaf : Bool) (s : List Nat) : pn leaf s 1 = if s.length % 2 = 0 then 0 else gd s 0 := by
  unfold pn
  rw [if_neg (by omega)]
  by_cases q : s.length % 2 = 0
  · rw [if_pos ⟨rfl, q⟩, if_pos q]
  · have o : s.length % 2 = 1 := by omega
    rw [if_neg (fun z => q z.2), if_neg q, o]
theorem pk_first (leaf : Bool) (s : List Nat) : pkY leaf s 0 = (if leaf then 32 else 0) + (if s.length % 2 = 0 then 0 else 16 + gd s 0) := by
  unfold pkY
  show 16 * pn leaf s 0 + pn leaf s 1 = _
  rw [pn_zero, pn_one]
  by_cases q : s.length % 2 = 0
  · rw [if_pos q, if_pos q, q]
    cases leaf <;> rfl
  · have o : s.length % 2 = 1 := by omega
    rw [if_neg q, if_neg q, o]
    cases leaf <;> simp <;> omega
theorem pk_next (leaf : Bool) (s : List Nat) (i : Nat) : pkY leaf s (1 + i) = 16 * gd s (s.length % 2 + 2 * i) + gd s (s.length % 2 + 2 * i + 1) := by
  unfold pkY pn
  rw [if_neg (by omega), if_neg (by omega), if_neg (by omega), if_neg (by omega)]
  have := Nat.mod_lt s.length (show 0 < 2 by decide)
  rw [show 2 * (1 + i) - (2 - s.length % 2) = s.length % 2 + 2 * i by omega, show 2 * (1 + i) + 1 - (2 - s.length % 2) = s.length % 2 + 2 * i + 1 by omega]
/-- P6.4, from a path on -/
theorem pk_up (leaf : Bool) {s : List Nat} (h : IsP s) : IsF (pkL leaf s) ∧ upL (pkL leaf s) = s ∧ lf (pkL leaf s) = leaf := by
  have e0 : gd (pkL leaf s) 0 = (if leaf then 32 else 0) + (if s.length % 2 = 0 then 0 else 16 + gd s 0) := by rw [pkL_gd (by omega), pk_first]
  have g0 : gd s 0 ≤ 15 := by
    by_cases q : 0 < s.length
    · exact h.2 0 q
    · rw [gd_out (by omega)]; decide
  have eo : od (pkL leaf s) = s.length % 2 := by
    unfold od
    rw [e0]
    cases leaf <;> simp <;> split <;> omega
  have ep : plen (pkL leaf s) = s.length := by unfold plen; rw [pkL_len, eo]; omega
  refine ⟨⟨by rw [pkL_len]; omega, ?_, ?_, by rw [ep]; exact h.1⟩, ?_, ?_⟩
  · rw [e0]
    cases leaf <;> simp <;> split <;> omega
  · rw [eo, e0]
    intro q
    rw [if_pos q]
    cases leaf <;> rfl
  · apply ext_gd
    · rw [upL_len, ep]
    · intro i hi
      rw [upL_len] at hi
      unfold upL
      rw [lst_gd hi]
      rw [ep] at hi
      unfold upY
      rw [eo, nib_pk leaf h.2 (by omega)]
      unfold pn
      have := Nat.mod_lt s.length (show 0 < 2 by decide)
      rw [if_neg (by omega), if_neg (by omega), Nat.add_sub_cancel]
  · unfold lf
    rw [e0]
    cases leaf
    · simp
      split <;> omega
    · simp
/-- P6.4, from a form on -/
theorem up_pk {b : List Nat} (hb : ∀ x ∈ b, x < 256) (h : IsF b) : IsP (upL b) ∧ pkL (lf b) (upL b) = b := by
  obtain ⟨h1, h2, h3, h4⟩ := h
  have ho := od_lt b
  have el : (upL b).length = plen b := upL_len b
  have e2 : plen b % 2 = od b := by unfold plen; omega
  have e3 : 1 + plen b / 2 = b.length := by unfold plen; omega
  refine ⟨⟨by rw [el]; exact h4, fun i hi => ?_⟩, ?_⟩
  · rw [← gd_get hi]; exact up_bytes hb _ (List.getElem_mem hi)
  · have key : ∀ j, j < 2 * b.length → pn (lf b) (upL b) j = nib b j := fun j hj => by
      unfold pn
      rw [el, e2]
      by_cases q : j = 0
      · subst q
        rw [if_pos rfl]
        unfold nib lf od
        simp only [Nat.zero_mod, Nat.zero_div, if_true]
        by_cases z : 32 ≤ gd b 0
        · simp [z]; omega
        · simp [z]; omega
      · rw [if_neg q]
        by_cases z : j = 1 ∧ od b = 0
        · rw [if_pos z]
          obtain ⟨rfl, z⟩ := z
          unfold nib
          have := h3 z
          simp
          omega
        · rw [if_neg z]
          have : 2 - od b ≤ j := by omega
          unfold upL
          rw [lst_gd (by unfold plen; omega)]
          unfold upY
          rw [Nat.sub_add_cancel this]
    apply ext_gd
    · rw [pkL_len, el, e3]
    · intro i hi
      rw [pkL_len, el, e3] at hi
      rw [pkL_gd (by rw [el]; omega)]
      unfold pkY
      rw [key _ (by omega), key _ (by omega)]
      unfold nib
      rw [if_pos (by omega), if_neg (by omega), show 2 * i / 2 = i by omega, show (2 * i + 1) / 2 = i by omega]
      omega
/-- what Pack answers -/
def pkR (leaf : Bool) (s : List Nat) : List Nat := if IsP s then pkL leaf s else []
def pkE (s : List Nat) : Nat := if IsP s then 0 else 60
/-- what Unpack answers -/
def upR (b : List Nat) : List Nat := if IsF b then upL b else []
def upI (b : List Nat) : Bool := if IsF b then lf b else false
def upE (b : List Nat) : Nat := if IsF b then 0 else 60
theorem pkR_ok (leaf : Bool) {s : List Nat} : (∀ x ∈ pkR leaf s, x < 256) ∧ (pkR leaf s).length ≤ 33 := by
  unfold pkR
  split
  · rename_i h
    exact ⟨pk_bytes leaf h.2, by rw [pkL_len]; have := h.1; omega⟩
  · exact ⟨fun x hx => (by cases hx), by simp⟩
theorem upR_ok {b : List Nat} (hb : ∀ x ∈ b, x < 256) : (∀ x ∈ upR b, x < 256) ∧ (upR b).length ≤ 64 := by
  unfold upR
  split
  · rename_i h
    exact ⟨fun x hx => by have := up_bytes hb x hx; omega, by rw [upL_len]; exact h.2.2.2⟩
  · exact ⟨fun x hx => (by cases hx), by simp⟩
/-- one form, one path -/
theorem form_of {b s : List Nat} {leaf : Bool} (h : IsP s) (e : pkL leaf s = b) : IsF b := e ▸ (pk_up leaf h).1
end Go.Proofs.Ytpiinkfcaoaffaa
