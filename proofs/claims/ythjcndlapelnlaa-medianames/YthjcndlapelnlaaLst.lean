/-
  Lists of numbers told by the index; a path's form, and the path of a form. No program.
-/
namespace Go.Proofs.Ythjcndlapelnlaa

/-- the byte at a place, 0 behind the end -/
def gd (s : List Nat) (i : Nat) : Nat := s.getD i 0
theorem gd_get {s : List Nat} {i : Nat} (h : i < s.length) : s[i] = gd s i := by
  unfold gd
  rw [List.getD_eq_getElem?_getD, List.getElem?_eq_getElem h]
  rfl
theorem gd_out {s : List Nat} {i : Nat} (h : s.length ≤ i) : gd s i = 0 := by
  unfold gd
  rw [List.getD_eq_getElem?_getD, List.getElem?_eq_none h]
  rfl
theorem ext_gd {s t : List Nat} (hl : s.length = t.length) (h : ∀ i, i < s.length → gd s i = gd t i) : s = t :=
  List.ext_getElem hl (fun i h1 h2 => by rw [gd_get h1, gd_get h2, h i h1])
theorem gd_app_l {s t : List Nat} {i : Nat} (h : i < s.length) : gd (s ++ t) i = gd s i := by
  unfold gd; rw [List.getD_eq_getElem?_getD, List.getD_eq_getElem?_getD, List.getElem?_append_left h]
theorem gd_app_r {s t : List Nat} {i : Nat} : gd (s ++ t) (s.length + i) = gd t i := by
  unfold gd; rw [List.getD_eq_getElem?_getD, List.getD_eq_getElem?_getD, List.getElem?_append_right (by omega), Nat.add_sub_cancel_left]
/-- the list of n numbers -/
def lst (n : Nat) (Y : Nat → Nat) : List Nat := (List.range n).map Y
theorem lst_len (n : Nat) (Y : Nat → Nat) : (lst n Y).length = n := by simp [lst]
theorem lst_gd {n : Nat} {Y : Nat → Nat} {i : Nat} (h : i < n) : gd (lst n Y) i = Y i := by
  unfold gd lst
  rw [List.getD_eq_getElem?_getD, List.getElem?_map, List.getElem?_range h]
  rfl
theorem lst_congr {n : Nat} {Y Z : Nat → Nat} (h : ∀ i, i < n → Y i = Z i) : lst n Y = lst n Z := ext_gd (by rw [lst_len, lst_len]) (fun i hi => by
  rw [lst_len] at hi
  rw [lst_gd hi, lst_gd hi, h i hi])

end Go.Proofs.Ythjcndlapelnlaa
