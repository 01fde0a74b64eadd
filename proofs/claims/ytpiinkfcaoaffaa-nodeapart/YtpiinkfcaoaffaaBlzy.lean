import Derived.Test.YtpiinkfcaoaffaaPnzy
/-
  branchNode.
-/
namespace Go.Proofs.Ytpiinkfcaoaffaa
open Go.RowKit
theorem itR_h32 {x : It} : ((itR x).getD rz).h.length = 32 := by
  unfold itR
  split
  · exact z32_len
  · split
    · exact z32_len
    · split
      · assumption
      · exact z32_len
theorem itR_hb {x : It} (h : ∀ y ∈ x.b, y < 256) : ∀ y ∈ ((itR x).getD rz).h, y < 256 := by
  unfold itR
  split
  · exact z32_lt
  · split
    · exact z32_lt
    · split
      · exact h
      · exact z32_lt
theorem enc_le (x : It) : (enc x).length ≤ 1048576 := by
  unfold enc
  split
  · rename_i he
    unfold encE at he
    split at he
    · omega
    · split at he
      · omega
      · split at he
        · omega
        · omega
  · simp
theorem itR_bl {x : It} : ((itR x).getD rz).b.length ≤ 1048576 := by
  unfold itR
  split
  · exact enc_le x
  · split
    · simp [rz]
    · split
      · simp
      · simp [rz]
theorem itRs_none {xs : List It} {i : Nat} {x : It} (h : xs[i]? = some x) (hx : itR x = none) : itRs xs = none := by
  induction xs generalizing i with
  | nil => simp at h
  | cons a t ih =>
    rw [itRs]
    cases i with
    | zero =>
      simp at h
      subst h
      rw [hx]
    | succ i =>
      cases itR a with
      | none => rfl
      | some r => dsimp only; rw [ih (i := i) (by simpa using h)]
theorem itRs_of {xs : List It} : ∀ {l : List Rf}, l.length = xs.length → (∀ (i : Nat) (x : It) (r : Rf), xs[i]? = some x → l[i]? = some r → itR x = some r) → itRs xs = some l := by
  induction xs with
  | nil => intro l h _; rw [List.eq_nil_of_length_eq_zero h]; rfl
  | cons a t ih =>
    intro l h k
    match l, h with
    | r :: l, h =>
      rw [itRs, k 0 a r (by simp) (by simp), ih (l := l) (by simpa using h) (fun i x r hx hr => k (i + 1) x r (by simpa using hx) (by simpa using hr))]
theorem kcs_set {r : Rf} {v : Value} (hr : r.h.length = 32) : ∀ {l : List Rf} {i : Nat} {k : Nat → Value}, (∀ q ∈ l, q.h.length = 32) → i < l.length → ∀ j, (kcs (l.set i r) (fun m => if m = i then v else k m))[j]? = if i * 34 ≤ j ∧ j < i * 34 + 34 then (rcs r v)[j - i * 34]? else (kcs l k)[j]? := by
  intro l
  induction l with
  | nil => intro i k _ hi; simp at hi
  | cons q l ih =>
    intro i k hl hi j
    have hq := rcs_len (hl q (by simp))
    cases i with
    | zero =>
      rw [List.set_cons_zero, kcs, kcs]
      have e : kcs l (fun m => if m + 1 = 0 then v else k (m + 1)) = kcs l (fun m => k (m + 1)) := kcs_congr (fun m _ => by rw [if_neg (by omega)])
      rw [e, if_pos rfl]
      by_cases h1 : j < 34
      · rw [if_pos (by omega), List.getElem?_append_left (by rw [rcs_len hr]; exact h1), Nat.zero_mul, Nat.sub_zero]
      · rw [if_neg (by omega), List.getElem?_append_right (by rw [rcs_len hr]; omega), List.getElem?_append_right (by rw [hq]; omega), rcs_len hr, hq]
    | succ i =>
      rw [List.set_cons_succ, kcs, kcs, if_neg (by omega)]
      have e : (fun m => if m + 1 = i + 1 then v else k (m + 1)) = (fun m => if m = i then v else (fun m => k (m + 1)) m) := by
        funext m
        by_cases c : m = i
        · rw [if_pos (by omega), if_pos c]
        · rw [if_neg (by omega), if_neg c]
      rw [e]
      by_cases h1 : j < 34
      · rw [List.getElem?_append_left (by rw [hq]; exact h1), if_neg (by omega), List.getElem?_append_left (by rw [hq]; exact h1)]
      · rw [List.getElem?_append_right (by rw [hq]; omega), hq, ih (fun q hq => hl q (by simp [hq])) (by simpa using hi) (j - 34), List.getElem?_append_right (by rw [hq]; omega), hq]
        by_cases h2 : i * 34 ≤ j - 34 ∧ j - 34 < i * 34 + 34
        · rw [if_pos h2, if_pos (by omega), show j - 34 - i * 34 = j - (i + 1) * 34 by omega]
        · rw [if_neg h2, if_neg (by omega)]
/-- a kid stored -/
theorem rng_set {w : World} {g : Nat} {n : Nd} {u : Nv} (hW : n.W) (h : w.rangeAt g 0 (nc n u)) {i : Nat} (hi : i < 16) {r : Rf} {v : Value} (hr : r.h.length = 32) (ht : w.there g 0 582) :
    (w.setCells g (38 + i * 34) (rcs r v)).rangeAt g 0 (nc ⟨n.k, n.path, n.val, n.full, n.next, n.kids.set i r⟩ ⟨u.p, u.v, u.x, fun m => if m = i then v else u.k m⟩) := by
  have ht' : w.there g (38 + i * 34) (rcs r v).length := fun j hj => by
    rw [rcs_len hr] at hj
    have := ht (38 + i * 34 + j) (by omega)
    rw [Nat.zero_add] at this
    exact this
  have hl : ∀ q ∈ n.kids, q.h.length = 32 := fun q hq => (hW.kid q hq).1
  have hx := rcs_len hW.next.1 u.x
  intro j c hj
  rw [Nat.zero_add]
  by_cases q : 38 + i * 34 ≤ j ∧ j < 38 + i * 34 + 34
  · have e : (nc ⟨n.k, n.path, n.val, n.full, n.next, n.kids.set i r⟩ ⟨u.p, u.v, u.x, fun m => if m = i then v else u.k m⟩)[j]? = (rcs r v)[j - (38 + i * 34)]? := by
      obtain ⟨j', rfl⟩ : ∃ j', j = j' + 4 := ⟨j - 4, by omega⟩
      unfold nc
      simp only [List.getElem?_cons_succ]
      rw [List.getElem?_append_right (by rw [hx]; omega), hx, kcs_set hr hl (by rw [hW.kids]; exact hi), if_pos (by omega)]
      congr 1
      omega
    rw [e] at hj
    have := World.rangeAt_setCells_same w g (38 + i * 34) (rcs r v) ht' _ c hj
    rw [show 38 + i * 34 + (j - (38 + i * 34)) = j by omega] at this
    exact this
  · have e : (nc ⟨n.k, n.path, n.val, n.full, n.next, n.kids.set i r⟩ ⟨u.p, u.v, u.x, fun m => if m = i then v else u.k m⟩)[j]? = (nc n u)[j]? := by
      unfold nc
      by_cases h4 : j < 4
      · match j, h4 with
        | 0, _ => rfl
        | 1, _ => rfl
        | 2, _ => rfl
        | 3, _ => rfl
      · obtain ⟨j', rfl⟩ : ∃ j', j = j' + 4 := ⟨j - 4, by omega⟩
        simp only [List.getElem?_cons_succ]
        by_cases h38 : j' < 34
        · rw [List.getElem?_append_left (by rw [hx]; exact h38), List.getElem?_append_left (by rw [hx]; exact h38)]
        · rw [List.getElem?_append_right (by rw [hx]; omega), List.getElem?_append_right (by rw [hx]; omega), hx, kcs_set hr hl (by rw [hW.kids]; exact hi), if_neg (by omega)]
    rw [e] at hj
    have h2 := h j c hj
    rw [Nat.zero_add] at h2
    rw [World.cell?_setCells_out g (rcs r v) (38 + i * 34) w ⟨g, j, none⟩ (fun _ _ => by
      rw [rcs_len hr]
      show j < 38 + i * 34 ∨ 38 + i * 34 + 34 ≤ j
      omega)]
    exact h2
theorem turn_setCells {F : Nat → Prop} {g : Nat} (hg : F g) : ∀ (vs : List Value) (o : Nat) (w : World), Turn F w (w.setCells g o vs)
  | [], _, w => Turn.refl F w
  | v :: r, o, w => by
    rw [World.setCells]
    exact (Turn.setCell w ⟨g, o, none⟩ v hg).trans (turn_setCells hg r (o + 1) _) (fun _ q => Or.inl q)
theorem size_setCells (g : Nat) : ∀ (vs : List Value) (o : Nat) (w : World), (w.setCells g o vs).heap.size = w.heap.size
  | [], _, _ => rfl
  | v :: r, o, w => by rw [World.setCells, size_setCells g r (o + 1) _]; simp
theorem there_row {w : World} {b : Nat} {cs : List Value} {t : TypeId} (h : w.heap[b]? = some (.cells cs.toArray t (0, 0))) (n : Nat) (hn : n ≤ cs.length) : w.there b 0 n := fun j hj => by
  rw [Nat.zero_add]
  refine ⟨?_, frozen_of_row w b j _ t h⟩
  rw [cell_of_row _ _ _ _ _ _ h]
  simp
  omega
theorem there_same {w w' : World} {b n : Nat} (h : w.there b 0 n) (k : w'.heap[b]? = w.heap[b]?) : w'.there b 0 n := fun j hj => by
  obtain ⟨h1, h2⟩ := h j hj
  refine ⟨by rw [World.cell?_of_block (w := w) k]; exact h1, ?_⟩
  simp only [World.frozen?, k] at h2 ⊢
  exact h2
/-- A BRANCH BEING MADE in block g: i kids so far -/
structure Bl (W wr : World) (g B : Nat) (V : List Nat) (f : Bool) (vb : Value) (xs : List It) (i : Nat) (l : List Rf) (k : Nat → Value) : Prop where
  len : l.length = i
  rng : wr.rangeAt g 0 (nc ⟨3, [], V, f, rz, l ++ List.replicate (16 - i) rz⟩ ⟨.slice none 0 0, vb, .slice none 0 0, k⟩)
  thr : wr.there g 0 582
  it : ∀ (j : Nat) (x : It) (r : Rf), xs[j]? = some x → l[j]? = some r → itR x = some r
  w : ∀ r ∈ l, r.W
  own : ∀ (j : Nat) (r : Rf), l[j]? = some r → wr.ownsRow B 5 1 (k j) r.b.length (bv r.b)
  lb : ∀ r ∈ l, r.b.length ≤ 1048576
  nil : ∀ j, i ≤ j → k j = .slice none 0 0
  apart : ∀ a b, a < i → b < i → a ≠ b → ∀ q, (k a).ownBlock = some q → (k b).ownBlock ≠ some q
  turn : Turn (fun q => q = g) W wr
  hB : g < B ∧ B ≤ wr.heap.size
theorem Bl.W {W wr : World} {g B : Nat} {V : List Nat} {f : Bool} {vb : Value} {xs : List It} {i : Nat} {l : List Rf} {k : Nat → Value} (h : Bl W wr g B V f vb xs i l k) (hi : i ≤ 16) (hV : ∀ x ∈ V, x < 256) : (⟨3, [], V, f, rz, l ++ List.replicate (16 - i) rz⟩ : Nd).W :=
  ⟨by show (l ++ List.replicate (16 - i) rz).length = 16; rw [List.length_append, List.length_replicate, h.len]; omega, rz_w, fun r hr => by
    rcases List.mem_append.1 hr with q | q
    · exact h.w r q
    · rw [List.eq_of_mem_replicate q]; exact rz_w, fun x hx => (by cases hx), hV⟩
theorem Bl.lt {W wr : World} {g B : Nat} {V : List Nat} {f : Bool} {vb : Value} {xs : List It} {i : Nat} {l : List Rf} {k : Nat → Value} (h : Bl W wr g B V f vb xs i l k) : g < wr.heap.size := by have := h.hB; omega
theorem Bl.next {W wr w2 : World} {g B : Nat} {V : List Nat} {f : Bool} {vb v : Value} {xs : List It} {i : Nat} {l : List Rf} {k : Nat → Value} {x : It} {r : Rf} (h : Bl W wr g B V f vb xs i l k) (hi : i < 16) (hV : ∀ x ∈ V, x < 256)
    (hx : xs[i]? = some x) (hr : itR x = some r) (hW : r.W) (hlb : r.b.length ≤ 1048576) (b2 : Below wr.heap.size wr w2) (own2 : w2.ownsRow wr.heap.size 5 1 v r.b.length (bv r.b)) :
    Bl W (w2.setCells g (38 + i * 34) (rcs r v)) g B V f vb xs (i + 1) (l ++ [r]) (fun m => if m = i then v else k m) := by
  have tt := turn_setCells (F := fun q => q = g) rfl (rcs r v) (38 + i * 34) w2
  have hs := size_setCells g (rcs r v) (38 + i * 34) w2
  have s2 := b2.size
  have hg := h.lt
  have hB := h.hB
  have hget : ∀ {j : Nat} {q : Rf}, (l ++ [r])[j]? = some q → (j < i ∧ l[j]? = some q) ∨ (j = i ∧ q = r) := fun {j q} hj => by
    by_cases e : j < i
    · left
      rw [List.getElem?_append_left (by rw [h.len]; exact e)] at hj
      exact ⟨e, hj⟩
    · right
      have hj' := (List.getElem?_eq_some_iff.1 hj).1
      rw [List.length_append, h.len] at hj'
      have e2 : j = i := by simp at hj'; omega
      subst e2
      rw [List.getElem?_append_right (by rw [h.len]; omega), h.len, Nat.sub_self] at hj
      simp at hj
      exact ⟨rfl, hj.symm⟩
  refine ⟨by rw [List.length_append, h.len]; rfl, ?_, World.there_setCells (there_same h.thr (b2.block g hg)) _ _ _, fun j y q hy hq => ?_, fun q hq => ?_, fun j q hq => ?_, fun q hq => ?_, fun j hj => ?_, fun a b ha hb hab q hq => ?_, ?_, ⟨hB.1, by rw [hs]; omega⟩⟩
  · have := rng_set (h.W (by omega) hV) (rng_same h.rng (b2.block g hg)) hi (r := r) (v := v) hW.1 (there_same h.thr (b2.block g hg))
    have e : (l ++ List.replicate (16 - i) rz).set i r = (l ++ [r]) ++ List.replicate (16 - (i + 1)) rz := by
      rw [List.set_append_right _ _ (by rw [h.len]; omega), h.len, Nat.sub_self, show 16 - i = (16 - (i + 1)) + 1 by omega, List.replicate_succ, List.set_cons_zero, List.append_assoc]
      rfl
    rw [← e]
    exact this
  · rcases hget hq with ⟨_, hq'⟩ | ⟨rfl, rfl⟩
    · exact h.it j y q hy hq'
    · rw [hx] at hy
      cases hy
      exact hr
  · rcases List.mem_append.1 hq with q' | q'
    · exact h.w q q'
    · rw [List.mem_singleton.1 q']; exact hW
  · rcases hget hq with ⟨hj, hq'⟩ | ⟨rfl, rfl⟩
    · have ho := h.own j q hq'
      simp only [if_neg (show ¬ j = i by omega)]
      exact own_same ho (fun z hz => by
        have := ho.lt z hz
        rw [tt.block z (by omega) (by omega), b2.block z this.2])
    · simp only [if_true]
      refine own_rebase (own_same own2 (fun z hz => ?_)) (fun z hz => by have := (own2.lt z hz).1; omega)
      have := own2.lt z hz
      exact tt.block z this.2 (by omega)
  · rcases List.mem_append.1 hq with q' | q'
    · exact h.lb q q'
    · rw [List.mem_singleton.1 q']; exact hlb
  · simp only [if_neg (show ¬ j = i by omega)]
    exact h.nil j (by omega)
  · by_cases ea : a = i
    · subst ea
      simp only [if_true] at hq
      simp only [if_neg (show ¬ b = a by omega)]
      intro hz
      have l1 := (own2.lt q hq).1
      have hbl : b < l.length := by rw [h.len]; omega
      have := ((h.own b _ (List.getElem?_eq_getElem hbl)).lt q hz).2
      omega
    · simp only [if_neg ea] at hq
      by_cases eb : b = i
      · subst eb
        simp only [if_true]
        intro hz
        have l1 := (own2.lt q hz).1
        have hal : a < l.length := by rw [h.len]; omega
        have := ((h.own a _ (List.getElem?_eq_getElem hal)).lt q hq).2
        omega
      · simp only [if_neg eb]
        exact h.apart a b (by omega) (by omega) hab q hq
  · exact (h.turn.trans (Turn.of_below (F := fun q => q = g) b2) (fun _ q => Or.inl q)).trans tt (fun _ q => Or.inl q)
end Go.Proofs.Ytpiinkfcaoaffaa
