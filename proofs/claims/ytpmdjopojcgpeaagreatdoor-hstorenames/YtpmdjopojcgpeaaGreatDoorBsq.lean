import Derived.Test.YtpmdjopojcgpeaaGreatDoorHqq
import Derived.Lib.SliceRun
import Derived.Test.YtpmdjopojcgpeaaGreatDoorRSmq
/-
  bytes.Clone; slices.Clone of choices.
-/
namespace Go.Proofs.YtpmdjopojcgpeaaGreatDoor
open Go.RowKit

set_option maxRecDepth 100000 in
set_option maxHeartbeats 800000 in
theorem bclone_any {w : World} {v : Value} {s : List Nat} (h : Vb w v s) :
    Calls Tryz.prog 63 #[v] w fun e w' => ∃ u, e = .returned u ∧ Ans w w' u s := by
  obtain ⟨a, b, off, c, rfl, hv, h1, h2, h3⟩ := h
  cases a with
  | none =>
    have hs : s.length = 0 := by
      rcases Nat.eq_zero_or_pos s.length with e | e
      · exact e
      · cases hv.at_ e
    have hc := h2 rfl
    have es : s = [] := List.length_eq_zero_iff.1 hs
    subst es
    subst hc
    clear hv h1 h2 h3 hs
    simp only [List.length_nil]
    have jn : ∀ u, (binOp .eql 29 (.slice none 0 0) (.slice none 0 0)).run Tryz.prog u = .ok (.bool true) u := fun u => Lib.run_eql_slice_nil u 29 5 none 0 0 0 0 Tryz.underlying29
    go_enter Tryz.func63, Tryz.ntmps63
    go_wp2_with fail
    go_ret
    exact ⟨_, rfl, ans_nil (Below.refl _ _)⟩
  | some p =>
    have HK : Hid (Bs s) := vw_ok hv
    have HV0 : Hid (View (w.alloc (.cells #[] 5)) (some p) b off s.length (fun i => ((gd s i : Nat) : Int))) := hv.below ((Below.refl _ _).alloc (Nat.le_refl _) _)
    have own0 := World.ownsRow_lit (base := w.heap.size) (e := 5) (size := 1) w #[] 0 (Nat.le_refl _) (by decide) rfl
    have HO : Hid ((w.alloc (.cells #[] 5)).ownsRow w.heap.size 5 1 (.slice (some ⟨w.heap.size, 0, none⟩) 0 0) 0 []) := own0
    obtain ⟨n, en⟩ : ∃ n, n = s.length := ⟨_, rfl⟩
    have HN : Hid (n = s.length) := en
    rw [← en] at HV0 h1 h3 ⊢
    clear hv own0 h2 en
    have jn : ∀ u, (binOp .eql 29 (.slice (some p) n c) (.slice none 0 0)).run Tryz.prog u = .ok (.bool false) u := fun u => Lib.run_eql_slice_nil u 29 5 (some p) n c 0 0 Tryz.underlying29
    go_enter Tryz.func63, Tryz.ntmps63
    go_wp2_with (at_builtin; go_loud (refine wpList_append_bytes (by rfl) (.tmp 5) (.tmp 6) (by rfl) w.heap.size _ 0 [] (by rfl) HO.out (some p) b off n c _ (by rfl) HV0.out (fun h => by cases h) (by omega) (by simp) ?_))
    intro v3 w3 own3 gr3 nn3
    have b3 : Below w.heap.size w w3 := ((Below.refl _ _).alloc (Nat.le_refl _) _).trans (grown_below gr3 HO.out (Nat.le_refl _) (by simp))
    have H3 : Hid (Ans w w3 v3 s) := by
      refine ⟨?_, HK.out.2, by rw [← HN.out]; exact h3, b3⟩
      rw [← vals_bv s, ← HN.out]
      simpa using own3
    obtain ⟨a3, c3, e3⟩ := own_slice own3
    subst e3
    clear own3 gr3 nn3 b3 HO HV0
    go_wp2_with fail
    go_ret
    exact ⟨_, rfl, H3.out⟩

/-! ### choices -/
def cc : List Cho → List Value
  | [] => []
  | x :: C => x.cells ++ cc C
theorem cc_len (C : List Cho) : (cc C).length = C.length * 3 := by
  induction C with
  | nil => rfl
  | cons x C ih => simp only [cc, List.length_append, List.length_cons, ih, Cho.cells, List.length_nil]; omega
theorem cc_at : ∀ (C : List Cho) (i : Nat) (x : Cho), C[i]? = some x → ∀ (j : Nat) (v : Value), x.cells[j]? = some v → (cc C)[i * 3 + j]? = some v
  | y :: C, 0, x, h, j, v, hv => by
    simp at h
    subst h
    simp only [cc, Nat.zero_mul, Nat.zero_add]
    rw [List.getElem?_append_left (List.getElem?_eq_some_iff.1 hv).1]
    exact hv
  | y :: C, i + 1, x, h, j, v, hv => by
    have := cc_at C i x (by simpa using h) j v hv
    simp only [cc]
    have e : y.cells.length = 3 := rfl
    rw [List.getElem?_append_right (by rw [e]; omega), e, show (i + 1) * 3 + j - 3 = i * 3 + j by omega]
    exact this
theorem cc_inv : ∀ (C : List Cho) (k : Nat) (v : Value), (cc C)[k]? = some v → ∃ i x j, C[i]? = some x ∧ x.cells[j]? = some v ∧ k = i * 3 + j
  | y :: C, k, v, h => by
    simp only [cc] at h
    have e : y.cells.length = 3 := rfl
    rcases Nat.lt_or_ge k 3 with q | q
    · rw [List.getElem?_append_left (by rw [e]; exact q)] at h
      exact ⟨0, y, k, rfl, h, by omega⟩
    · rw [List.getElem?_append_right (by rw [e]; exact q), e] at h
      obtain ⟨i, x, j, h1, h2, h3⟩ := cc_inv C (k - 3) v h
      exact ⟨i + 1, x, j, by simpa using h1, h2, by omega⟩
theorem cc_one (C : List Cho) : ∀ u ∈ cc C, u.oneCell' = true := fun u hu => by
  obtain ⟨k, hk, e⟩ := List.getElem_of_mem hu
  obtain ⟨i, x, j, h1, h2, _⟩ := cc_inv C k u (by rw [← e]; exact List.getElem?_eq_getElem hk)
  have := List.mem_of_getElem? h2
  simp only [Cho.cells, List.mem_cons, List.not_mem_nil, or_false] at this
  rcases this with rfl | rfl | rfl <;> rfl
theorem info27 : (Tryz.prog.info? 152).map (fun i => (i.zero, i.size, i.bytes)) = some (some (.agg #[.int .i64 0, .int .i64 0, .int .i64 0]), 3, 24) := by kernel_rfl
/-- A LIST OF CHOICES in a block of its own. -/
abbrev Cho3 (w : World) (B : Nat) (v : Value) (C : List Cho) : Prop := w.ownsRow B 152 3 v C.length (cc C)
theorem cho3_chs {w : World} {B : Nat} {v : Value} {C : List Cho} (h : Cho3 w B v C) (hl : C.length ≤ 5864062014464) : Chs w v C := by
  rcases h.2 with ⟨rfl, h0⟩ | ⟨g, cap, cur, rfl, hB, hg, h1, h2, h3, h4⟩
  · exact ⟨none, 0, 0, 0, by rw [h0], fun k => by omega, fun i x hx => by have := (List.getElem?_eq_some_iff.1 hx).1; omega, by omega, fun _ => rfl, hl⟩
  · refine ⟨_, g, 0, cap, rfl, fun _ => rfl, fun i x hx j v hv => ?_, h1, (fun z => by cases z), hl⟩
    have := World.ownsRow.cells h (g := g) rfl (i * 3 + j) v (cc_at C i x hx j v hv)
    rw [add_flat] at this
    rw [Nat.zero_add]
    exact this
set_option maxRecDepth 100000 in
set_option maxHeartbeats 800000 in
theorem cclone_any {w : World} {v : Value} {C : List Cho} (h : Chs w v C) :
    Calls Tryz.prog 86 #[v] w fun e w' => ∃ u, e = .returned u ∧ Cho3 w' w.heap.size u C ∧ Below w.heap.size w w' := by
  obtain ⟨a, b, off, c, rfl, h1, h2, h3, h4, h5⟩ := h
  cases a with
  | none =>
    have hs : C.length = 0 := by
      rcases Nat.eq_zero_or_pos C.length with e | e
      · exact e
      · cases h1 e
    have hc := h4 rfl
    have es : C = [] := List.length_eq_zero_iff.1 hs
    subst es
    subst hc
    clear h1 h2 h3 h4 h5 hs
    simp only [List.length_nil]
    have jn : ∀ u, (binOp .eql 47 (.slice none 0 0) (.slice none 0 0)).run Tryz.prog u = .ok (.bool true) u := fun u => Lib.run_eql_slice_nil u 47 152 none 0 0 0 0 Tryz.underlying47
    go_enter Tryz.func86, Tryz.ntmps86
    go_wp2_with fail
    go_ret
    exact ⟨_, rfl, World.ownsRow_nil _ _ _ _, Below.refl _ _⟩
  | some p =>
    obtain ⟨i0, hi0, hz0, hz1, hz2⟩ := info_parts info27
    have HI : Hid (Tryz.prog.info? 152 = some i0 ∧ i0.zero = some (.agg #[.int .i64 0, .int .i64 0, .int .i64 0]) ∧ i0.size = 3 ∧ i0.bytes = 24) := ⟨hi0, hz0, hz1, hz2⟩
    have HO : Hid ((w.alloc (.cells #[] 152)).ownsRow w.heap.size 152 3 (.slice (some ⟨w.heap.size, 0, none⟩) 0 0) 0 []) := World.ownsRow_lit (base := w.heap.size) (e := 152) (size := 3) w #[] 0 (Nat.le_refl _) (by decide) rfl
    have HC : Hid (∀ j u, (cc C)[j]? = some u → (w.alloc (.cells #[] 152)).cell? (p.add j) = some u) := fun j u hu => by
      obtain ⟨i, x, k, e1, e2, e3⟩ := cc_inv C j u hu
      have hp : p = ⟨b, off, none⟩ := Option.some.inj (h1 (by have := (List.getElem?_eq_some_iff.1 e1).1; omega))
      subst hp
      have := rng_keep (h2 i x e1) ((Below.refl w.heap.size w).alloc (Nat.le_refl _) (.cells #[] 152)) k u e2
      rw [Go.WideShapes.add_plain, e3, ← Nat.add_assoc]
      exact this
    have HL : Hid ((cc C).length = C.length * 3) := cc_len C
    obtain ⟨n, en⟩ : ∃ n, n = C.length := ⟨_, rfl⟩
    have HN : Hid (n = C.length) := en
    rw [← en] at h3 h5 HL ⊢
    clear h1 h2 h4 en hi0 hz0 hz1 hz2
    have jn : ∀ u, (binOp .eql 47 (.slice (some p) n c) (.slice none 0 0)).run Tryz.prog u = .ok (.bool false) u := fun u => Lib.run_eql_slice_nil u 47 152 (some p) n c 0 0 Tryz.underlying47
    go_enter Tryz.func86, Tryz.ntmps86
    go_wp2_with (at_builtin; go_loud (refine wpList_append_own _ (by rfl) (.tmp 5) (.tmp 6) 47 (by rfl) w.heap.size 152 i0 _ 3 24 Tryz.underlying47 HI.out.1 HI.out.2.1 HI.out.2.2.1 HI.out.2.2.2 (by rfl) (by decide) _ 0 [] (by rfl) HO.out p n c (cc C) (by rfl) HL.out HC.out (cc_one C) (by unfold maxLen; omega) (by omega) (by simp) ?_))
    intro v3 w3 own3 gr3 nn3
    have b3 : Below w.heap.size w w3 := ((Below.refl _ _).alloc (Nat.le_refl _) _).trans (grown_below gr3 HO.out (Nat.le_refl _) (by simp))
    have H3 : Hid (w3.ownsRow w.heap.size 152 3 v3 n (cc C) ∧ Below w.heap.size w w3) := ⟨by simpa using own3, b3⟩
    obtain ⟨a3, c3, e3⟩ := own_slice own3
    subst e3
    clear own3 gr3 nn3 b3 HO HC
    go_wp2_with fail
    go_ret
    exact ⟨_, rfl, by show w3.ownsRow _ _ _ _ C.length _; rw [← HN.out]; exact H3.out.1, H3.out.2⟩
end Go.Proofs.YtpmdjopojcgpeaaGreatDoor

/-
  media.unless, (stay).same, (*Device).under$1, mayBe, (deed).to.
-/
namespace Go.Proofs.YtpmdjopojcgpeaaGreatDoor
open Go.RowKit

set_option maxRecDepth 100000 in
theorem unless_any (w : World) (b : Bool) (e : Int) :
    Calls Tryz.prog 208 #[.bool b, .int .i64 e] w fun r w' => r = .returned (.int .i64 (if b = true then 0 else e)) ∧ w' = w := by
  cases b
  · go_enter Tryz.func208, Tryz.ntmps208
    go_wp2_with fail
    go_ret
    exact ⟨rfl, rfl⟩
  · go_enter Tryz.func208, Tryz.ntmps208
    go_wp2_with fail
    go_ret
    exact ⟨rfl, rfl⟩

/-- a stay as data -/
structure Sty where
  since : Int
  data : List Nat
  there : Bool
def stc (t : Int) (d : Value) (b : Bool) : List Value := [.int .i64 t, d, .bool b]
def Sty.same (s o : Sty) : Bool := decide (s.there = o.there ∧ s.data = o.data)
set_option maxRecDepth 100000 in
set_option maxHeartbeats 800000 in
theorem ssame_any {w : World} {s o : Sty} {v u : Value} (h : Vb w v s.data) (h' : Vb w u o.data) :
    Calls Tryz.prog 174 #[.agg #[.int .i64 s.since, v, .bool s.there], .agg #[.int .i64 o.since, u, .bool o.there]] w fun e w' => e = .returned (.bool (s.same o)) ∧ Below w.heap.size w w' := by
  obtain ⟨t, d, b⟩ := s
  obtain ⟨t', d', b'⟩ := o
  simp only at h h' ⊢
  have HB : Hid (∀ (x y : Obj), Below w.heap.size w ((w.alloc x).alloc y)) := fun x y => ((Below.refl w.heap.size w).alloc (Nat.le_refl _) x).alloc (by simp) y
  have HK : Hid (∀ (x y : Obj), Calls Tryz.prog 91 #[v, u] ((w.alloc x).alloc y) fun e w' => e = .returned (.bool (decide (d = d'))) ∧ w' = (w.alloc x).alloc y) := fun x y => by
    obtain ⟨a, bb, off, c, rfl, hv, _⟩ := h.keep (HB.out x y)
    obtain ⟨a', bb', off', c', rfl, hv', _⟩ := h'.keep (HB.out x y)
    exact bEqual_any hv hv'
  obtain ⟨av, nv, cv, ev⟩ : ∃ a n c, v = .slice a n c := by
    obtain ⟨a, bb, off, c, e, _⟩ := h
    exact ⟨a, _, c, e⟩
  obtain ⟨au, nu, cu, eu⟩ : ∃ a n c, u = .slice a n c := by
    obtain ⟨a, bb, off, c, e, _⟩ := h'
    exact ⟨a, _, c, e⟩
  subst ev
  subst eu
  clear h h'
  by_cases hb : b = b'
  · subst hb
    have HE : Hid ((Sty.mk t d b).same (Sty.mk t' d' b) = decide (d = d')) := by
      show decide (b = b ∧ d = d') = decide (d = d')
      exact decide_eq_decide.2 ⟨fun k => k.2, fun k => ⟨rfl, k⟩⟩
    generalize decide (d = d') = r at *
    have bb : (b == b) = true := by simp
    go_enter Tryz.func174, Tryz.ntmps174
    go_wp2_with fail
    refine (HK.out _ _).mono ?_
    rintro e w' ⟨rfl, rfl⟩
    go_wp2_with fail
    go_ret
    exact ⟨by rw [HE.out]; rfl, HB.out _ _⟩
  · have HE : Hid ((Sty.mk t d b).same (Sty.mk t' d' b') = false) := decide_eq_false (fun k => hb k.1)
    have bb : (b == b') = false := by simpa using hb
    clear hb
    go_enter Tryz.func174, Tryz.ntmps174
    go_wp2_with fail
    go_ret
    exact ⟨by rw [HE.out]; rfl, HB.out _ _⟩
set_option maxRecDepth 100000 in
theorem under1_any (w : World) (t : Int) (d : Value) (b : Bool) (u : Int) (h1 : -1099511627776 ≤ t) (h2 : t ≤ 1099511627776) (h3 : -1099511627776 ≤ u) (h4 : u ≤ 1099511627776) :
    Calls Tryz.prog 210 #[.agg #[.int .i64 t, d, .bool b], .int .i64 u] w fun e w' => e = .returned (.int .i64 (t - u)) ∧ Below w.heap.size w w' := by
  have HB : Hid (∀ (x : Obj), Below w.heap.size w (w.alloc x)) := fun x => (Below.refl w.heap.size w).alloc (Nat.le_refl _) x
  have hw : wrap64 (t - u) = t - u := by unfold wrap64; omega
  go_enter Tryz.func210, Tryz.ntmps210
  go_wp2_with fail
  go_ret
  exact ⟨rfl, HB.out _⟩
end Go.Proofs.YtpmdjopojcgpeaaGreatDoor

/-
  slices.BinarySearchFunc of stays.
-/
namespace Go.Proofs.YtpmdjopojcgpeaaGreatDoor
open Go.RowKit

/-- THE VALUE v IS A LIST OF THE STAYS S. -/
def Sts (w : World) (v : Value) (S : List Sty) : Prop :=
  ∃ (a : Option Addr) (b off c : Nat), v = .slice a S.length c ∧ (0 < S.length → a = some ⟨b, off, none⟩) ∧ (∀ (i : Nat) (x : Sty), S[i]? = some x → ∃ d, w.rangeAt b (off + i * 3) (stc x.since d x.there) ∧ Vb w d x.data) ∧ S.length ≤ c ∧ S.length ≤ 1099511627776
theorem Sts.keep {w w' : World} {v : Value} {S : List Sty} (h : Sts w v S) (k : Below w.heap.size w w') : Sts w' v S := by
  obtain ⟨a, b, off, c, e, h1, h2, r⟩ := h
  exact ⟨a, b, off, c, e, h1, fun i x hx => by
    obtain ⟨d, q1, q2⟩ := h2 i x hx
    exact ⟨d, rng_keep q1 k, q2.keep k⟩, r⟩
/-- times that rise, all small -/
def Up (S : List Sty) : Prop := (∀ (i j : Nat) (x y : Sty), i ≤ j → S[i]? = some x → S[j]? = some y → x.since ≤ y.since) ∧ ∀ x ∈ S, 0 ≤ x.since ∧ x.since ≤ 1099511627776
/-- how many began ahead of u -/
def ahd (S : List Sty) (u : Int) : Nat := S.countP (fun x => decide (x.since < u))
theorem ahd_le (S : List Sty) (u : Int) : ahd S u ≤ S.length := List.countP_le_length
theorem ahd_eq {S : List Sty} {u : Int} {k : Nat} (hk : k ≤ S.length) (h1 : ∀ (i : Nat) (x : Sty), i < k → S[i]? = some x → x.since < u) (h2 : ∀ (i : Nat) (x : Sty), k ≤ i → S[i]? = some x → ¬ x.since < u) : ahd S u = k := by
  unfold ahd
  have e : S = S.take k ++ S.drop k := (List.take_append_drop k S).symm
  rw [e, List.countP_append]
  have a1 : (S.take k).countP (fun x => decide (x.since < u)) = (S.take k).length := by
    rw [List.countP_eq_length]
    intro x hx
    obtain ⟨i, hi, e⟩ := List.getElem_of_mem hx
    rw [List.length_take] at hi
    have := h1 i x (by omega) (by rw [← e, List.getElem_take]; exact List.getElem?_eq_getElem (by omega))
    exact decide_eq_true this
  have a2 : (S.drop k).countP (fun x => decide (x.since < u)) = 0 := by
    rw [List.countP_eq_zero]
    intro x hx
    obtain ⟨i, hi, e⟩ := List.getElem_of_mem hx
    rw [List.length_drop] at hi
    have := h2 (k + i) x (by omega) (by rw [← e, List.getElem_drop]; exact List.getElem?_eq_getElem (by omega))
    simpa using this
  rw [a1, a2, List.length_take]
  omega
set_option maxRecDepth 100000 in
set_option maxHeartbeats 1600000 in
theorem bsearch_any {w : World} {v : Value} {S : List Sty} (h : Sts w v S) (hu : Up S) (u : Int) (hu0 : 0 ≤ u) (hu1 : u ≤ 1099511627776) :
    Calls Tryz.prog 209 #[v, .int .i64 u, (.func (.func 210) #[] #[])] w fun e w' => (∃ v : Value, e = .returned (.tuple #[.int .i64 ((ahd S u : Nat) : Int), v])) ∧ Below w.heap.size w w' := by
  obtain ⟨a, b, off, c, rfl, h1, h2, h3, h4⟩ := h
  have HC : Hid ((0 < S.length → a = some ⟨b, off, none⟩) ∧ ∀ i, i < S.length → ∃ t bb d, S[i]? = some ⟨t, d, bb⟩ ∧ (0 ≤ t ∧ t ≤ 1099511627776) ∧ ∃ dv, w.rangeAt b (off + i * 3) [.int .i64 t, dv, .bool bb]) := by
    refine ⟨h1, fun i hi => ?_⟩
    obtain ⟨⟨t, d, bb⟩, hx⟩ : ∃ x, S[i]? = some x := ⟨_, List.getElem?_eq_getElem hi⟩
    obtain ⟨dv, q1, _⟩ := h2 i _ hx
    exact ⟨t, bb, d, hx, hu.2 _ (List.mem_of_getElem? hx), dv, q1⟩
  have HU : Hid (Up S) := hu
  obtain ⟨n, en⟩ : ∃ n, n = S.length := ⟨_, rfl⟩
  have HN : Hid (n = S.length) := en
  rw [← en] at HC h3 h4 ⊢
  clear h1 h2 hu en
  go_enter Tryz.func209, Tryz.ntmps209
  go_wp2_with fail
  go_loopg [9, 10] n (fun g ii jj wr => ∃ i j : Nat, i ≤ j ∧ j ≤ n ∧ g = j - i ∧ ii = .int .i64 i ∧ jj = .int .i64 j ∧ (∀ (k : Nat) (x : Sty), k < i → S[k]? = some x → x.since < u) ∧ (∀ (k : Nat) (x : Sty), j ≤ k → S[k]? = some x → ¬ x.since < u) ∧ Below w.heap.size w wr)
  case atStart => exact ⟨0, n, Nat.zero_le _, Nat.le_refl _, rfl, rfl, rfl, fun k x hk => absurd hk (by omega), fun k x hk hx => absurd (List.getElem?_eq_some_iff.1 hx).1 (by have := HN.out; omega), Below.refl _ _⟩
  case round =>
    obtain ⟨i, j, hij, hjn, rfl, rfl, rfl, hlo, hhi, hb⟩ := hrel
    have HO : Hid ((∀ (k : Nat) (x : Sty), k < i → S[k]? = some x → x.since < u) ∧ (∀ (k : Nat) (x : Sty), j ≤ k → S[k]? = some x → ¬ x.since < u) ∧ Below w.heap.size w wr) := ⟨hlo, hhi, hb⟩
    clear hlo hhi hb
    by_cases hlt : i < j
    · have i1 : (i : Int) < (j : Int) := by omega
      obtain rfl := HC.out.1 (by omega)
      obtain ⟨m, hm⟩ : ∃ m : Nat, m = (i + j) / 2 := ⟨_, rfl⟩
      have hm1 : i ≤ m := by omega
      have hm2 : m < j := by omega
      have e1 : ((i : Int) + (j : Int)) / 2 = (m : Int) := by omega
      obtain ⟨t, bb, d, hx, ⟨ht0, ht1⟩, dv, hr⟩ := HC.out.2 m (by omega)
      have HX : Hid (S[m]? = some ⟨t, d, bb⟩ ∧ wr.rangeAt b (off + m * 3) [.int .i64 t, dv, .bool bb]) := ⟨hx, rng_keep hr HO.out.2.2⟩
      have i2 : (m : Int) < (n : Int) := by omega
      have i3 : (0 : Int) ≤ (m : Int) := by omega
      have r0 : wr.cell? ⟨b, off + m * 3, none⟩ = some (.int .i64 t) := (rng_head HX.out.2).1
      have r1 : wr.cell? ⟨b, off + m * 3 + 1, none⟩ = some dv := (rng_head (rng_head HX.out.2).2).1
      have r2 : wr.cell? ⟨b, off + m * 3 + 2, none⟩ = some (.bool bb) := (rng_head (rng_head (rng_head HX.out.2).2).2).1
      clear hm hx hr
      go_wp2_with fail
      refine (under1_any wr t dv bb u (by omega) (by omega) (by omega) (by omega)).mono ?_
      rintro e w1 ⟨rfl, b1⟩
      have HB1 : Hid (Below w.heap.size w w1) := ch HO.out.2.2 b1
      clear b1 r0 r1 r2
      by_cases htu : t < u
      · have i4 : t - u < 0 := by omega
        have HL : Hid (∀ (k : Nat) (x : Sty), k < m + 1 → S[k]? = some x → x.since < u) := fun k x hk hx => by
          have := HU.out.1 k m x _ (by omega) hx HX.out.1
          simp only at this
          omega
        go_wp2_with fail
        go_roundg (j - (m + 1))
        case measure => omega
        case rel => exact ⟨m + 1, j, by omega, hjn, rfl, by go_num, rfl, HL.out, HO.out.2.1, HB1.out⟩
      · have i4 : ¬ t - u < 0 := by omega
        have HL : Hid (∀ (k : Nat) (x : Sty), m ≤ k → S[k]? = some x → ¬ x.since < u) := fun k x hk hx => by
          have := HU.out.1 m k _ x hk HX.out.1 hx
          simp only at this
          omega
        go_wp2_with fail
        go_roundg (m - i)
        case measure => omega
        case rel => exact ⟨i, m, hm1, by omega, rfl, rfl, rfl, HO.out.1, HL.out, HB1.out⟩
    · have i1 : ¬ (i : Int) < (j : Int) := by omega
      have eij : i = j := by omega
      have HA : Hid (ahd S u = i) := ahd_eq (by have := HN.out; omega) HO.out.1 (by rw [eij]; exact HO.out.2.1)
      clear eij
      by_cases hin : i < n
      · have i2 : (i : Int) < (n : Int) := by omega
        have i3 : (0 : Int) ≤ (i : Int) := by omega
        obtain rfl := HC.out.1 (by omega)
        obtain ⟨t, bb, d, hx, ⟨ht0, ht1⟩, dv, hr⟩ := HC.out.2 i hin
        have HX : Hid (wr.rangeAt b (off + i * 3) [.int .i64 t, dv, .bool bb]) := rng_keep hr HO.out.2.2
        have r0 : wr.cell? ⟨b, off + i * 3, none⟩ = some (.int .i64 t) := (rng_head HX.out).1
        have r1 : wr.cell? ⟨b, off + i * 3 + 1, none⟩ = some dv := (rng_head (rng_head HX.out).2).1
        have r2 : wr.cell? ⟨b, off + i * 3 + 2, none⟩ = some (.bool bb) := (rng_head (rng_head (rng_head HX.out).2).2).1
        clear hx hr
        go_wp2_with fail
        refine (under1_any wr t dv bb u (by omega) (by omega) (by omega) (by omega)).mono ?_
        rintro e w1 ⟨rfl, b1⟩
        have HB1 : Hid (Below w.heap.size w w1) := ch HO.out.2.2 b1
        clear b1 r0 r1 r2
        go_wp2_with fail
        go_ret2
        exact ⟨by rw [HA.out]; exact ⟨_, rfl⟩, HB1.out⟩
      · have i2 : ¬ (i : Int) < (n : Int) := by omega
        go_wp2_with fail
        go_ret2
        exact ⟨by rw [HA.out]; exact ⟨_, rfl⟩, HO.out.2.2⟩
end Go.Proofs.YtpmdjopojcgpeaaGreatDoor
