/-
  bytes.Clone; slices.Clone of choices.
-/
import Derived.Test.YthjcndlapelnlaaCm
import Derived.Lib.SliceRun
namespace Go.Proofs.Ythjcndlapelnlaa
open Go.RowKit

set_option maxRecDepth 100000 in
set_option maxHeartbeats 800000 in
theorem bclone_any {w : World} {v : Value} {s : List Nat} (h : Vb w v s) :
    Calls Try.prog 31 #[v] w fun e w' => ∃ u, e = .returned u ∧ Ans w w' u s := by
  obtain ⟨a, b, off, c, rfl, hv, h1, h2, h3⟩ := h
  cases a with
  | none =>
    have hs : s.length = 0 := by
      rcases Nat.eq_zero_or_pos s.length with e | e
      · exact e
      · cases hv.at_ e
    have hc := h2 rfl
    have es : s = [] := List.length_eq_zero_iff.1 hs
    subst es
    subst hc
    clear hv h1 h2 h3 hs
    simp only [List.length_nil]
    have jn : ∀ u, (binOp .eql 29 (.slice none 0 0) (.slice none 0 0)).run Try.prog u = .ok (.bool true) u := fun u => Lib.run_eql_slice_nil u 29 5 none 0 0 0 0 Try.underlying29
    go_enter Try.func31, Try.ntmps31
    go_wp2_with fail
    go_ret
    exact ⟨_, rfl, ans_nil (Below.refl _ _)⟩
  | some p =>
    have HK : Hid (Bs s) := vw_ok hv
    have HV0 : Hid (View (w.alloc (.cells #[] 5)) (some p) b off s.length (fun i => ((gd s i : Nat) : Int))) := hv.below ((Below.refl _ _).alloc (Nat.le_refl _) _)
    have own0 := World.ownsRow_lit (base := w.heap.size) (e := 5) (size := 1) w #[] 0 (Nat.le_refl _) (by decide) rfl
    have HO : Hid ((w.alloc (.cells #[] 5)).ownsRow w.heap.size 5 1 (.slice (some ⟨w.heap.size, 0, none⟩) 0 0) 0 []) := own0
    obtain ⟨n, en⟩ : ∃ n, n = s.length := ⟨_, rfl⟩
    have HN : Hid (n = s.length) := en
    rw [← en] at HV0 h1 h3 ⊢
    clear hv own0 h2 en
    have jn : ∀ u, (binOp .eql 29 (.slice (some p) n c) (.slice none 0 0)).run Try.prog u = .ok (.bool false) u := fun u => Lib.run_eql_slice_nil u 29 5 (some p) n c 0 0 Try.underlying29
    go_enter Try.func31, Try.ntmps31
    go_wp2_with (at_builtin; go_loud (refine wpList_append_bytes (by rfl) (.tmp 5) (.tmp 6) (by rfl) w.heap.size _ 0 [] (by rfl) HO.out (some p) b off n c _ (by rfl) HV0.out (fun h => by cases h) (by omega) (by simp) ?_))
    intro v3 w3 own3 gr3 nn3
    have b3 : Below w.heap.size w w3 := ((Below.refl _ _).alloc (Nat.le_refl _) _).trans (grown_below gr3 HO.out (Nat.le_refl _) (by simp))
    have H3 : Hid (Ans w w3 v3 s) := by
      refine ⟨?_, HK.out.2, by rw [← HN.out]; exact h3, b3⟩
      rw [← vals_bv s, ← HN.out]
      simpa using own3
    obtain ⟨a3, c3, e3⟩ := own_slice own3
    subst e3
    clear own3 gr3 nn3 b3 HO HV0
    go_wp2_with fail
    go_ret
    exact ⟨_, rfl, H3.out⟩

/-! ### choices -/
def cc : List Cho → List Value
  | [] => []
  | x :: C => x.cells ++ cc C
theorem cc_len (C : List Cho) : (cc C).length = C.length * 3 := by
  induction C with
  | nil => rfl
  | cons x C ih => simp only [cc, List.length_append, List.length_cons, ih, Cho.cells, List.length_nil]; omega
theorem cc_at : ∀ (C : List Cho) (i : Nat) (x : Cho), C[i]? = some x → ∀ (j : Nat) (v : Value), x.cells[j]? = some v → (cc C)[i * 3 + j]? = some v
  | y :: C, 0, x, h, j, v, hv => by
    simp at h
    subst h
    simp only [cc, Nat.zero_mul, Nat.zero_add]
    rw [List.getElem?_append_left (List.getElem?_eq_some_iff.1 hv).1]
    exact hv
  | y :: C, i + 1, x, h, j, v, hv => by
    have := cc_at C i x (by simpa using h) j v hv
    simp only [cc]
    have e : y.cells.length = 3 := rfl
    rw [List.getElem?_append_right (by rw [e]; omega), e, show (i + 1) * 3 + j - 3 = i * 3 + j by omega]
    exact this
theorem cc_inv : ∀ (C : List Cho) (k : Nat) (v : Value), (cc C)[k]? = some v → ∃ i x j, C[i]? = some x ∧ x.cells[j]? = some v ∧ k = i * 3 + j
  | y :: C, k, v, h => by
    simp only [cc] at h
    have e : y.cells.length = 3 := rfl
    rcases Nat.lt_or_ge k 3 with q | q
    · rw [List.getElem?_append_left (by rw [e]; exact q)] at h
      exact ⟨0, y, k, rfl, h, by omega⟩
    · rw [List.getElem?_append_right (by rw [e]; exact q), e] at h
      obtain ⟨i, x, j, h1, h2, h3⟩ := cc_inv C (k - 3) v h
      exact ⟨i + 1, x, j, by simpa using h1, h2, by omega⟩
theorem cc_one (C : List Cho) : ∀ u ∈ cc C, u.oneCell' = true := fun u hu => by
  obtain ⟨k, hk, e⟩ := List.getElem_of_mem hu
  obtain ⟨i, x, j, h1, h2, _⟩ := cc_inv C k u (by rw [← e]; exact List.getElem?_eq_getElem hk)
  have := List.mem_of_getElem? h2
  simp only [Cho.cells, List.mem_cons, List.not_mem_nil, or_false] at this
  rcases this with rfl | rfl | rfl <;> rfl
theorem info27 : (Try.prog.info? 27).map (fun i => (i.zero, i.size, i.bytes)) = some (some (.agg #[.int .i64 0, .int .i64 0, .int .i64 0]), 3, 24) := by kernel_rfl
/-- A LIST OF CHOICES in a block of its own. -/
abbrev Cho3 (w : World) (B : Nat) (v : Value) (C : List Cho) : Prop := w.ownsRow B 27 3 v C.length (cc C)
theorem cho3_chs {w : World} {B : Nat} {v : Value} {C : List Cho} (h : Cho3 w B v C) (hl : C.length ≤ 5864062014464) : Chs w v C := by
  rcases h.2 with ⟨rfl, h0⟩ | ⟨g, cap, cur, rfl, hB, hg, h1, h2, h3, h4⟩
  · exact ⟨none, 0, 0, 0, by rw [h0], fun k => by omega, fun i x hx => by have := (List.getElem?_eq_some_iff.1 hx).1; omega, by omega, fun _ => rfl, hl⟩
  · refine ⟨_, g, 0, cap, rfl, fun _ => rfl, fun i x hx j v hv => ?_, h1, (fun z => by cases z), hl⟩
    have := World.ownsRow.cells h (g := g) rfl (i * 3 + j) v (cc_at C i x hx j v hv)
    rw [add_flat] at this
    rw [Nat.zero_add]
    exact this
set_option maxRecDepth 100000 in
set_option maxHeartbeats 800000 in
theorem cclone_any {w : World} {v : Value} {C : List Cho} (h : Chs w v C) :
    Calls Try.prog 28 #[v] w fun e w' => ∃ u, e = .returned u ∧ Cho3 w' w.heap.size u C ∧ Below w.heap.size w w' := by
  obtain ⟨a, b, off, c, rfl, h1, h2, h3, h4, h5⟩ := h
  cases a with
  | none =>
    have hs : C.length = 0 := by
      rcases Nat.eq_zero_or_pos C.length with e | e
      · exact e
      · cases h1 e
    have hc := h4 rfl
    have es : C = [] := List.length_eq_zero_iff.1 hs
    subst es
    subst hc
    clear h1 h2 h3 h4 h5 hs
    simp only [List.length_nil]
    have jn : ∀ u, (binOp .eql 28 (.slice none 0 0) (.slice none 0 0)).run Try.prog u = .ok (.bool true) u := fun u => Lib.run_eql_slice_nil u 28 27 none 0 0 0 0 Try.underlying28
    go_enter Try.func28, Try.ntmps28
    go_wp2_with fail
    go_ret
    exact ⟨_, rfl, World.ownsRow_nil _ _ _ _, Below.refl _ _⟩
  | some p =>
    obtain ⟨i0, hi0, hz0, hz1, hz2⟩ := info_parts info27
    have HI : Hid (Try.prog.info? 27 = some i0 ∧ i0.zero = some (.agg #[.int .i64 0, .int .i64 0, .int .i64 0]) ∧ i0.size = 3 ∧ i0.bytes = 24) := ⟨hi0, hz0, hz1, hz2⟩
    have HO : Hid ((w.alloc (.cells #[] 27)).ownsRow w.heap.size 27 3 (.slice (some ⟨w.heap.size, 0, none⟩) 0 0) 0 []) := World.ownsRow_lit (base := w.heap.size) (e := 27) (size := 3) w #[] 0 (Nat.le_refl _) (by decide) rfl
    have HC : Hid (∀ j u, (cc C)[j]? = some u → (w.alloc (.cells #[] 27)).cell? (p.add j) = some u) := fun j u hu => by
      obtain ⟨i, x, k, e1, e2, e3⟩ := cc_inv C j u hu
      have hp : p = ⟨b, off, none⟩ := Option.some.inj (h1 (by have := (List.getElem?_eq_some_iff.1 e1).1; omega))
      subst hp
      have := rng_keep (h2 i x e1) ((Below.refl w.heap.size w).alloc (Nat.le_refl _) (.cells #[] 27)) k u e2
      rw [Go.WideShapes.add_plain, e3, ← Nat.add_assoc]
      exact this
    have HL : Hid ((cc C).length = C.length * 3) := cc_len C
    obtain ⟨n, en⟩ : ∃ n, n = C.length := ⟨_, rfl⟩
    have HN : Hid (n = C.length) := en
    rw [← en] at h3 h5 HL ⊢
    clear h1 h2 h4 en hi0 hz0 hz1 hz2
    have jn : ∀ u, (binOp .eql 28 (.slice (some p) n c) (.slice none 0 0)).run Try.prog u = .ok (.bool false) u := fun u => Lib.run_eql_slice_nil u 28 27 (some p) n c 0 0 Try.underlying28
    go_enter Try.func28, Try.ntmps28
    go_wp2_with (at_builtin; go_loud (refine wpList_append_own _ (by rfl) (.tmp 5) (.tmp 6) 28 (by rfl) w.heap.size 27 i0 _ 3 24 Try.underlying28 HI.out.1 HI.out.2.1 HI.out.2.2.1 HI.out.2.2.2 (by rfl) (by decide) _ 0 [] (by rfl) HO.out p n c (cc C) (by rfl) HL.out HC.out (cc_one C) (by unfold maxLen; omega) (by omega) (by simp) ?_))
    intro v3 w3 own3 gr3 nn3
    have b3 : Below w.heap.size w w3 := ((Below.refl _ _).alloc (Nat.le_refl _) _).trans (grown_below gr3 HO.out (Nat.le_refl _) (by simp))
    have H3 : Hid (w3.ownsRow w.heap.size 27 3 v3 n (cc C) ∧ Below w.heap.size w w3) := ⟨by simpa using own3, b3⟩
    obtain ⟨a3, c3, e3⟩ := own_slice own3
    subst e3
    clear own3 gr3 nn3 b3 HO HC
    go_wp2_with fail
    go_ret
    exact ⟨_, rfl, by show w3.ownsRow _ _ _ _ C.length _; rw [← HN.out]; exact H3.out.1, H3.out.2⟩
end Go.Proofs.Ythjcndlapelnlaa
