/-
  Accesses in memory: slices.Clone of accesses, (*Device).Accesses.
-/
import Derived.Test.YthjcndlapelnlaaCn
import Derived.Test.YthjcndlapelnlaaNx
namespace Go.Proofs.Ythjcndlapelnlaa
open Go.RowKit

/-- an access as data -/
structure Acn where
  k : Int
  n : Int
  m : Bool
def Acn.cells (c : Acn) : List Value := [.int .i64 c.k, .int .i64 c.n, .bool c.m]
/-- THE VALUE v IS A LIST OF THE ACCESSES C. -/
def Acs (w : World) (v : Value) (C : List Acn) : Prop :=
  ∃ (a : Option Addr) (b off c : Nat), v = .slice a C.length c ∧ (0 < C.length → a = some ⟨b, off, none⟩) ∧ (∀ (i : Nat) (x : Acn), C[i]? = some x → w.rangeAt b (off + i * 3) x.cells) ∧ C.length ≤ c ∧ (a = none → c = 0) ∧ C.length ≤ 5864062014464
theorem Acs.keep {w w' : World} {v : Value} {C : List Acn} (h : Acs w v C) (k : Below w.heap.size w w') : Acs w' v C := by
  obtain ⟨a, b, off, c, e, h1, h2, r⟩ := h
  exact ⟨a, b, off, c, e, h1, fun i x hx => rng_keep (h2 i x hx) k, r⟩
def acc3 : List Acn → List Value
  | [] => []
  | x :: C => x.cells ++ acc3 C
theorem ac_len (C : List Acn) : (acc3 C).length = C.length * 3 := by
  induction C with
  | nil => rfl
  | cons x C ih => simp only [acc3, List.length_append, List.length_cons, ih, Acn.cells, List.length_nil]; omega
theorem ac_at : ∀ (C : List Acn) (i : Nat) (x : Acn), C[i]? = some x → ∀ (j : Nat) (v : Value), x.cells[j]? = some v → (acc3 C)[i * 3 + j]? = some v
  | y :: C, 0, x, h, j, v, hv => by
    simp at h
    subst h
    simp only [acc3, Nat.zero_mul, Nat.zero_add]
    rw [List.getElem?_append_left (List.getElem?_eq_some_iff.1 hv).1]
    exact hv
  | y :: C, i + 1, x, h, j, v, hv => by
    have := ac_at C i x (by simpa using h) j v hv
    simp only [acc3]
    have e : y.cells.length = 3 := rfl
    rw [List.getElem?_append_right (by rw [e]; omega), e, show (i + 1) * 3 + j - 3 = i * 3 + j by omega]
    exact this
theorem ac_inv : ∀ (C : List Acn) (k : Nat) (v : Value), (acc3 C)[k]? = some v → ∃ i x j, C[i]? = some x ∧ x.cells[j]? = some v ∧ k = i * 3 + j
  | y :: C, k, v, h => by
    simp only [acc3] at h
    have e : y.cells.length = 3 := rfl
    rcases Nat.lt_or_ge k 3 with q | q
    · rw [List.getElem?_append_left (by rw [e]; exact q)] at h
      exact ⟨0, y, k, rfl, h, by omega⟩
    · rw [List.getElem?_append_right (by rw [e]; exact q), e] at h
      obtain ⟨i, x, j, h1, h2, h3⟩ := ac_inv C (k - 3) v h
      exact ⟨i + 1, x, j, by simpa using h1, h2, by omega⟩
theorem ac_one (C : List Acn) : ∀ u ∈ acc3 C, u.oneCell' = true := fun u hu => by
  obtain ⟨k, hk, e⟩ := List.getElem_of_mem hu
  obtain ⟨i, x, j, h1, h2, _⟩ := ac_inv C k u (by rw [← e]; exact List.getElem?_eq_getElem hk)
  have := List.mem_of_getElem? h2
  simp only [Acn.cells, List.mem_cons, List.not_mem_nil, or_false] at this
  rcases this with rfl | rfl | rfl <;> rfl
theorem info82 : (Try.prog.info? 82).map (fun i => (i.zero, i.size, i.bytes)) = some (some (.agg #[.int .i64 0, .int .i64 0, .bool false]), 3, 24) := by kernel_rfl
/-- A LIST OF ACCESSES in a block of its own. -/
abbrev Acs3 (w : World) (B : Nat) (v : Value) (C : List Acn) : Prop := w.ownsRow B 82 3 v C.length (acc3 C)
theorem acs3_acs {w : World} {B : Nat} {v : Value} {C : List Acn} (h : Acs3 w B v C) (hl : C.length ≤ 5864062014464) : Acs w v C := by
  rcases h.2 with ⟨rfl, h0⟩ | ⟨g, cap, cur, rfl, hB, hg, h1, h2, h3, h4⟩
  · exact ⟨none, 0, 0, 0, by rw [h0], fun k => by omega, fun i x hx => by have := (List.getElem?_eq_some_iff.1 hx).1; omega, by omega, fun _ => rfl, hl⟩
  · refine ⟨_, g, 0, cap, rfl, fun _ => rfl, fun i x hx j v hv => ?_, h1, (fun z => by cases z), hl⟩
    have := World.ownsRow.cells h (g := g) rfl (i * 3 + j) v (ac_at C i x hx j v hv)
    rw [add_flat] at this
    rw [Nat.zero_add]
    exact this
set_option maxRecDepth 100000 in
set_option maxHeartbeats 800000 in
theorem aclone_any {w : World} {v : Value} {C : List Acn} (h : Acs w v C) :
    Calls Try.prog 29 #[v] w fun e w' => ∃ u, e = .returned u ∧ Acs3 w' w.heap.size u C ∧ Below w.heap.size w w' := by
  obtain ⟨a, b, off, c, rfl, h1, h2, h3, h4, h5⟩ := h
  cases a with
  | none =>
    have hs : C.length = 0 := by
      rcases Nat.eq_zero_or_pos C.length with e | e
      · exact e
      · cases h1 e
    have hc := h4 rfl
    have es : C = [] := List.length_eq_zero_iff.1 hs
    subst es
    subst hc
    clear h1 h2 h3 h4 h5 hs
    simp only [List.length_nil]
    have jn : ∀ u, (binOp .eql 49 (.slice none 0 0) (.slice none 0 0)).run Try.prog u = .ok (.bool true) u := fun u => Lib.run_eql_slice_nil u 49 82 none 0 0 0 0 Try.underlying49
    go_enter Try.func29, Try.ntmps29
    go_wp2_with fail
    go_ret
    exact ⟨_, rfl, World.ownsRow_nil _ _ _ _, Below.refl _ _⟩
  | some p =>
    obtain ⟨i0, hi0, hz0, hz1, hz2⟩ := info_parts info82
    have HI : Hid (Try.prog.info? 82 = some i0 ∧ i0.zero = some (.agg #[.int .i64 0, .int .i64 0, .bool false]) ∧ i0.size = 3 ∧ i0.bytes = 24) := ⟨hi0, hz0, hz1, hz2⟩
    have HO : Hid ((w.alloc (.cells #[] 82)).ownsRow w.heap.size 82 3 (.slice (some ⟨w.heap.size, 0, none⟩) 0 0) 0 []) := World.ownsRow_lit (base := w.heap.size) (e := 82) (size := 3) w #[] 0 (Nat.le_refl _) (by decide) rfl
    have HC : Hid (∀ j u, (acc3 C)[j]? = some u → (w.alloc (.cells #[] 82)).cell? (p.add j) = some u) := fun j u hu => by
      obtain ⟨i, x, k, e1, e2, e3⟩ := ac_inv C j u hu
      have hp : p = ⟨b, off, none⟩ := Option.some.inj (h1 (by have := (List.getElem?_eq_some_iff.1 e1).1; omega))
      subst hp
      have := rng_keep (h2 i x e1) ((Below.refl w.heap.size w).alloc (Nat.le_refl _) (.cells #[] 82)) k u e2
      rw [Go.WideShapes.add_plain, e3, ← Nat.add_assoc]
      exact this
    have HL : Hid ((acc3 C).length = C.length * 3) := ac_len C
    obtain ⟨n, en⟩ : ∃ n, n = C.length := ⟨_, rfl⟩
    have HN : Hid (n = C.length) := en
    rw [← en] at h3 h5 HL ⊢
    clear h1 h2 h4 en hi0 hz0 hz1 hz2
    have jn : ∀ u, (binOp .eql 49 (.slice (some p) n c) (.slice none 0 0)).run Try.prog u = .ok (.bool false) u := fun u => Lib.run_eql_slice_nil u 49 82 (some p) n c 0 0 Try.underlying49
    go_enter Try.func29, Try.ntmps29
    go_wp2_with (at_builtin; go_loud (refine wpList_append_own _ (by rfl) (.tmp 5) (.tmp 6) 49 (by rfl) w.heap.size 82 i0 _ 3 24 Try.underlying49 HI.out.1 HI.out.2.1 HI.out.2.2.1 HI.out.2.2.2 (by rfl) (by decide) _ 0 [] (by rfl) HO.out p n c (acc3 C) (by rfl) HL.out HC.out (ac_one C) (by unfold maxLen; omega) (by omega) (by simp) ?_))
    intro v3 w3 own3 gr3 nn3
    have b3 : Below w.heap.size w w3 := ((Below.refl _ _).alloc (Nat.le_refl _) _).trans (grown_below gr3 HO.out (Nat.le_refl _) (by simp))
    have H3 : Hid (w3.ownsRow w.heap.size 82 3 v3 n (acc3 C) ∧ Below w.heap.size w w3) := ⟨by simpa using own3, b3⟩
    obtain ⟨a3, c3, e3⟩ := own_slice own3
    subst e3
    clear own3 gr3 nn3 b3 HO HC
    go_wp2_with fail
    go_ret
    exact ⟨_, rfl, by show w3.ownsRow _ _ _ _ C.length _; rw [← HN.out]; exact H3.out.1, H3.out.2⟩
set_option maxRecDepth 100000 in
set_option maxHeartbeats 800000 in
theorem accesses_any {w : World} {g : Nat} {d : Dvf} {C : List Acn} (h : Db w g d) (ha : Acs w d.ac C) :
    Calls Try.prog 19 #[.pointer (some ⟨g, 0, none⟩)] w fun e w' => ∃ u, e = .returned u ∧ Acs3 w' w.heap.size u C ∧ Below w.heap.size w w' := by
  obtain ⟨c0, c1, c2, c3, c4, c5, c6, c7, c8, c9, c10, c11⟩ := h.at_
  have HK : Hid (Calls Try.prog 29 #[d.ac] w fun e w' => ∃ u, e = .returned u ∧ Acs3 w' w.heap.size u C ∧ Below w.heap.size w w') := aclone_any ha
  obtain ⟨a, b, off, c, e, _⟩ := ha
  rw [e] at c7 HK
  clear h e c0 c1 c2 c3 c4 c5 c6 c8 c9 c10 c11
  go_enter Try.func19, Try.ntmps19
  go_wp2_with (go_at_call 29; refine HK.out.mono ?_; rintro e w' ⟨u, rfl, hu, hb⟩; have HU : Hid (Acs3 w' w.heap.size u C ∧ Below w.heap.size w w') := ⟨hu, hb⟩; clear hu hb HK)
  go_ret
  exact ⟨_, rfl, HU.out.1, HU.out.2⟩
end Go.Proofs.Ythjcndlapelnlaa
