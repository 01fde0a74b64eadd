import Derived.Test.YtadcbhjmbgenbaaDoorInsq
import Derived.Test.YtadcbhjmbgenbaaDoorLibCq
import Derived.Test.YtadcbhjmbgenbaaDoorCutq
import Derived.Test.YtadcbhjmbgenbaaDoorMacEq
/-
  What a new note comes to: the string's copy, its row, the map.
-/
namespace Go.Proofs.YtadcbhjmbgenbaaDoor
open Go.RowKit Go.Sort Go.Maps

theorem info_map : Tryd.prog.underlying 44 = some (.map 31 64) := by kernel_rfl
theorem zeroBB (w : World) : (zeroValue 64).run Tryd.prog w = .ok nilS w := by kernel_rfl
/-- the look-up -/
theorem look {w : World} {bm : Nat} {F : Nat → Prop} {κ : List Nat → List Nat} {L : List (List Nat)} {D : DataW Value} {V : List Nat → Value} {n : Nat} (h : NotesX w bm F κ L D V n) {k : List Nat} (hk : IsH k) :
    (Instr.lookup 44 (.map (some bm)) (.agg (hA k)) false).run Tryd.prog w = .ok (V k) w := by
  obtain ⟨v, ps, hr, hv⟩ := h.map.lookup keyed info_map (zeroBB w) (zd := .held nilS) (zp := []) rfl (keyOf_hash hk)
  rw [h.val k hk] at hv
  have : v = V k := by
    simp only [holdR, Option.some.injEq, Prod.mk.injEq, DataW.held.injEq] at hv
    exact hv.1
  rw [hr, this]
theorem NotesX.below {w w' : World} {bm : Nat} {F : Nat → Prop} {κ : List Nat → List Nat} {L : List (List Nat)} {D : DataW Value} {V : List Nat → Value} {n : Nat} (h : NotesX w bm F κ L D V n) (hb : Below w.heap.size w w') : NotesX w' bm F κ L D V n :=
  h.turn (Turn.of_below hb (F := fun _ => False)) (fun _ _ _ q => q)
theorem own_base {w : World} {B e size n : Nat} {v : Value} {xs : List Value} (h : w.ownsRow B e size v n xs) : w.ownsRow 0 e size v n xs := by
  refine ⟨h.1, ?_⟩
  rcases h.2 with q | ⟨g, cap, cur, h1, _, h2⟩
  · exact Or.inl q
  · exact Or.inr ⟨g, cap, cur, h1, Nat.zero_le _, h2⟩
theorem own_below {w w' : World} {B e size n : Nat} {v : Value} {xs : List Value} (h : w.ownsRow B e size v n xs) (hb : Below w.heap.size w w') : w'.ownsRow B e size v n xs := own_turn h (Turn.of_below hb (F := fun _ => False)) (fun _ _ q => q)

structure AddF (W w8 : World) (bm : Nat) (F : Nat → Prop) (κ : List Nat → List Nat) (L : List (List Nat)) : Prop where
  notes : Notes w8 bm (fun i => F i ∨ (W.heap.size ≤ i ∧ i < w8.heap.size)) κ L
  turn : Turn F W w8

theorem add_insert {W w5 w7 : World} {bm : Nat} {F : Nat → Prop} {κ : List Nat → List Nat} {L : List (List Nat)} {D : DataW Value} {V : List Nat → Value} {n : Nat} {t : List Nat} {u v' : Value} {xs : List Value} (N : NotesX W bm F κ L D V n) (hk : IsH (κ t)) (htL : t ∉ L) (hbs : Bs t) (hroom : L.length ≤ 1099511627776)
    (ho5 : w5.ownsRow W.heap.size 5 1 u t.length (bv t)) (hb5 : Below W.heap.size W w5) (own : W.ownsRow 0 22 1 (V (κ t)) (grp κ L (κ t)).length xs) (st : Strs W F xs (grp κ L (κ t)))
    (hI : Inserted (w5.alloc (.cells #[u] 22)) w7 (V (κ t)) v' (grp κ L (κ t)).length (pos t (grp κ L (κ t))) xs u) :
    ∃ w8, (Instr.mapUpdate 44 (.map (some bm)) (.agg (hA (κ t))) v').run Tryd.prog w7 = .ok () w8 ∧ AddF W w8 bm F κ (ins t L) ∧ w7.grownBy w8 (some bm) := by
  have b6 : Below W.heap.size W (w5.alloc (.cells #[u] 22)) := hb5.alloc hb5.size _
  have t7 : Turn (fun i => (V (κ t)).ownBlock = some i) W w7 := (Turn.of_below b6).trans (Turn.of_grown hI.2.1 (F := fun i => (V (κ t)).ownBlock = some i) (fun k e => e)) (fun i q => Or.inl q)
  have m7 := map_turn N.map t7 (own_ne_map own N.map)
  have hn : n < maxLen := by have := N.room; unfold maxLen; omega
  obtain ⟨w8, hrun, m8, g8⟩ := m7.update keyed info_map hn (keyOf_hash hk) (rfl : holdR v' = some (.held v', []))
  refine ⟨w8, hrun, ⟨⟨_, _, _, N.store (F' := fun i => F i ∨ (W.heap.size ≤ i ∧ i < w8.heap.size)) htL hk (fun i q => Or.inl q) (fun i h1 h2 => Or.inr ⟨h1, h2⟩) t7 hI.1 ?_ ?_ m8 g8⟩, ?_⟩, g8⟩
  · rw [ins_at (ris_grp N.ris _) (fun q => htL (mem_grp.1 q).1)]
    have rowne : ∀ {q : Value} {s : List Nat} {B : Nat} (_ : W.ownsRow B 5 1 q s.length (bv s)) (g : Nat), q.ownBlock = some g → ¬ ((V (κ t)).ownBlock = some g) := fun hq g hg e => by
      obtain ⟨cur, hc⟩ := own_block own e
      exact own_ne_cells hq hc (by decide) hg
    have s7 : ∀ x ∈ xs, ∀ s, Str W F x s → Str w7 (fun i => F i ∨ (W.heap.size ≤ i ∧ i < w8.heap.size)) x s := fun x _ s hs =>
      ⟨own_turn hs.own t7 (rowne hs.own), fun g hg => Or.inl (hs.foot g hg), hs.ok⟩
    have st7 : Strs w7 (fun i => F i ∨ (W.heap.size ≤ i ∧ i < w8.heap.size)) xs (grp κ L (κ t)) := st.imp s7
    refine (st7.take _).app (.cons ?_ (st7.drop _))
    have ho6 : (w5.alloc (.cells #[u] 22)).ownsRow W.heap.size 5 1 u t.length (bv t) := ho5.alloc _
    have own6 : (w5.alloc (.cells #[u] 22)).ownsRow 0 22 1 (V (κ t)) (grp κ L (κ t)).length xs := own_below own b6
    have ho7 : w7.ownsRow W.heap.size 5 1 u t.length (bv t) := own_turn ho6 (Turn.of_grown hI.2.1 (F := fun i => (V (κ t)).ownBlock = some i) (fun k e => e)) (fun g hg e => by
      obtain ⟨cur, hc⟩ := own_block own6 e
      exact own_ne_cells ho6 hc (by decide) hg)
    refine ⟨own_base ho7, fun g hg => Or.inr ⟨(ho7.lt g hg).1, Nat.lt_of_lt_of_le (ho7.lt g hg).2 g8.size⟩, hbs⟩
  · rcases hI.2.2 with e | e
    · exact Or.inl e
    · exact Or.inr ⟨_, e, by rw [World.size_alloc]; have := hb5.size; omega⟩
  · exact (t7.mono (fun i q => Or.inl (N.rfoot _ i hk q))).trans (Turn.of_grown g8 (F := F) (fun k e => by rw [← Option.some.inj e]; exact N.foot)) (fun i q => Or.inl q)
end Go.Proofs.YtadcbhjmbgenbaaDoor
