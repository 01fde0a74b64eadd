import Derived.Test.YtlhllbggnpcoaaaDoorPso
import Derived.Test.YtlhllbggnpcoaaaDoorSl
import Derived.Test.YtlhllbggnpcoaaaDoorPlc
import Derived.Maps.RangeWalk
/-
  Pairs gathered.
-/
namespace Go.Proofs.YtlhllbggnpcoaaaDoor
open Go.RowKit Go.Sort Go.Maps

theorem ranges_turn {H : Type} {P : Program} {k : TypeId} {R : Value → Option (DataW H × List MemPlace)} {w w' : World} {b r n cnt : Nat} {D : DataW H} {left : Lit → Bool} {F : Nat → Prop} (h : w.ranges P k R b r n D left cnt) (t : Turn F w w') (hb : ¬ F b) (hr : ¬ F r) : w'.ranges P k R b r n D left cnt := by
  have l1 := h.lt
  have l2 := h.owns.lt
  obtain ⟨es, clock, since, seen, c0, h1, h2, h3, h4, h5, rest⟩ := h
  exact ⟨es, clock, since, seen, c0, (t.block b l2 hb).trans h1, h2, h3, h4, (t.block r l1 hr).trans h5, rest⟩
theorem own_ne_iter {w : World} {base e size m : Nat} {v : Value} {xs : List Value} (h : w.ownsRow base e size v m xs) {H : Type} {P : Program} {k : TypeId} {R : Value → Option (DataW H × List MemPlace)} {b r n cnt : Nat} {D : DataW H} {left : Lit → Bool} (hm : w.ranges P k R b r n D left cnt) : v.ownBlock ≠ some r := by
  intro z
  obtain ⟨es, clock, since, seen, c0, h1, h2, h3, h4, h5, rest⟩ := hm
  obtain ⟨cur, hc⟩ := own_block h z
  rw [h5] at hc
  cases hc

structure PAcc (w0 w : World) (v : Value) (Q : List PR) : Prop where
  below : Below w0.heap.size w0 w
  own : w.ownsRow w0.heap.size 43 2 v Q.length (Q.flatMap PR.enc)
  ok : ∀ q ∈ Q, POk w w0.heap.size q
theorem PAcc.nil {w0 w : World} (h : Below w0.heap.size w0 w) : PAcc w0 w (.slice none 0 0) [] := ⟨h, World.ownsRow_nil _ _ _ _, fun q hq => by simp at hq⟩
/-- what only makes memory, or turns a block that is none of ours -/
theorem PAcc.turn {w0 w w' : World} {v : Value} {Q : List PR} {G : Nat → Prop} (h : PAcc w0 w v Q) (t : Turn G w w') (hG : ∀ i, G i → w0.heap.size ≤ i ∧ (i < w.heap.size → ∃ o, w.heap[i]? = some o ∧ ∀ cs e fz, o ≠ .cells cs e fz)) : PAcc w0 w' v Q := by
  refine ⟨h.below.trans (t.below (fun i q => (hG i q).1) h.below.size), own_turn h.own t (fun g hg q => ?_), fun q hq => (h.ok q hq).turn t (fun i q hi => ?_)⟩
  · obtain ⟨o, ho, hne⟩ := (hG g q).2 (h.own.lt g hg).2
    obtain ⟨cur, hc⟩ := own_block h.own hg
    rw [hc] at ho
    exact hne _ _ _ (Option.some.inj ho).symm
  · obtain ⟨o, ho, hne⟩ := (hG i q).2 hi
    exact ⟨o, ho, fun cs fz => hne cs 5 fz⟩
theorem PAcc.step {w0 w w' : World} {v : Value} {Q : List PR} (h : PAcc w0 w v Q) (hb : Below w.heap.size w w') : PAcc w0 w' v Q :=
  h.turn (Turn.of_below hb (F := fun _ => False)) (fun _ q => q.elim)
theorem row_apart {w : World} {base size n : Nat} {v : Value} {xs : List Value} (h : w.ownsRow base 43 size v n xs) : ∀ i, v.ownBlock = some i → i < w.heap.size → ∃ o, w.heap[i]? = some o ∧ ∀ cs fz, o ≠ .cells cs 5 fz := fun i hi _ => by
  obtain ⟨cur, hc⟩ := own_block h hi
  exact ⟨_, hc, fun cs fz z => by injection z with _ z; exact absurd z (by decide)⟩
/-- one more -/
theorem PAcc.push {w0 wr w1 w2 w3 : World} {v v1 v2 v' : Value} {Q : List PR} {a b : List Nat} {o : Obj} (h : PAcc w0 wr v Q) (hb1 : Below wr.heap.size wr w1) (o1 : w1.ownsRow wr.heap.size 5 1 v1 a.length (bv a)) (ka : Bs a)
    (hb2 : Below w1.heap.size w1 w2) (o2 : w2.ownsRow w1.heap.size 5 1 v2 b.length (bv b)) (kb : Bs b)
    (own' : w3.ownsRow w0.heap.size 43 2 v' (Q.length + 1) (Q.flatMap PR.enc ++ [v1, v2])) (gr : (w2.alloc o).grownBy w3 v.ownBlock) :
    PAcc w0 w3 v' (Q ++ [⟨v1, a, v2, b⟩]) ∧ Turn (fun i => v.ownBlock = some i) wr w3 := by
  have h1 := h.step hb1
  have h2 := h1.step hb2
  have h2a := h2.step ((Below.refl _ _).alloc (Nat.le_refl _) o : Below w2.heap.size w2 (w2.alloc o))
  have t3 : Turn (fun i => v.ownBlock = some i) (w2.alloc o) w3 := Turn.of_grown gr (fun k e => e)
  have lo : ∀ i, v.ownBlock = some i → w0.heap.size ≤ i := fun i hi => (h.own.lt i hi).1
  have s1 : Str (w2.alloc o) (fun i => w0.heap.size ≤ i) v1 a := by
    refine ⟨?_, fun g hg => ?_, ka⟩
    · have := own_turn (own_turn o1 (Turn.of_below hb2 (F := fun _ => False)) (fun _ _ q => q)) (Turn.alloc w2 o (F := fun _ => False)) (fun _ _ q => q)
      exact ⟨this.1, this.2.imp id (fun ⟨g, cap, cur, e1, _, r⟩ => ⟨g, cap, cur, e1, Nat.zero_le _, r⟩)⟩
    · exact Nat.le_trans h.below.size (o1.lt g hg).1
  have s2 : Str (w2.alloc o) (fun i => w0.heap.size ≤ i) v2 b := by
    refine ⟨?_, fun g hg => ?_, kb⟩
    · have := own_turn o2 (Turn.alloc w2 o (F := fun _ => False)) (fun _ _ q => q)
      exact ⟨this.1, this.2.imp id (fun ⟨g, cap, cur, e1, _, r⟩ => ⟨g, cap, cur, e1, Nat.zero_le _, r⟩)⟩
    · exact Nat.le_trans h1.below.size (o2.lt g hg).1
  have hn : POk (w2.alloc o) w0.heap.size ⟨v1, a, v2, b⟩ := ⟨s1, s2⟩
  have ra := row_apart h2a.own
  refine ⟨⟨h2a.below.trans (t3.below lo h2a.below.size), by simpa [PR.enc] using own', fun q hq => ?_⟩, ?_⟩
  · rcases List.mem_append.1 hq with hq | hq
    · exact (h2a.ok q hq).turn t3 ra
    · rw [List.mem_singleton] at hq
      subst hq
      exact hn.turn t3 ra
  · exact (((Turn.of_below hb1 (F := fun i => v.ownBlock = some i)).trans (Turn.of_below hb2 (F := fun i => v.ownBlock = some i)) (fun _ q => Or.inl q)).trans (Turn.alloc w2 o (F := fun i => v.ownBlock = some i)) (fun _ q => Or.inl q)).trans t3 (fun _ q => Or.inl q)

/-- WHAT IS GATHERED SO FAR: the groups whose keys have been met. -/
structure Met (κ : List Nat → List Nat) (L : List (List Nat)) (left : Lit → Bool) (P : List (List Nat × List Nat)) : Prop where
  mem : ∀ p, p ∈ P ↔ ∃ k, IsH k ∧ left (klit k) = false ∧ p ∈ gpairs (grp κ L k)
  nod : P.Nodup
theorem gp_key {κ : List Nat → List Nat} {L : List (List Nat)} {k : List Nat} {p : List Nat × List Nat} (h : p ∈ gpairs (grp κ L k)) : κ p.1 = k := by
  have h1 := gpairs_fst h
  have : p.1 ∈ grp κ L k := List.mem_of_mem_head? (by rw [h1]; rfl)
  exact (mem_grp.1 this).2
theorem Met.next {κ : List Nat → List Nat} {L : List (List Nat)} (hL : Ris L) {left : Lit → Bool} {P : List (List Nat × List Nat)} (h : Met κ L left P) {k : List Nat} (hk : IsH k) (hl : left (klit k) = true) : Met κ L (fun z => left z && !z.sameKey (klit k)) (P ++ gpairs (grp κ L k)) := by
  refine ⟨fun p => ?_, ?_⟩
  · rw [List.mem_append, h.mem]
    constructor
    · rintro (⟨k', h1, h2, h3⟩ | h3)
      · exact ⟨k', h1, by rw [h2]; rfl, h3⟩
      · exact ⟨k, hk, by rw [(WideAt.sameKey_iff (klit_key hk)).2 rfl]; simp, h3⟩
    · rintro ⟨k', h1, h2, h3⟩
      by_cases e : k' = k
      · subst e; exact Or.inr h3
      · refine Or.inl ⟨k', h1, ?_, h3⟩
        have : (klit k').sameKey (klit k) = false := by
          cases q : (klit k').sameKey (klit k) with
          | false => rfl
          | true => exact absurd (klit_inj h1 hk ((WideAt.sameKey_iff (klit_key hk)).1 q)) e
        rw [this] at h2
        simpa using h2
  · rw [List.nodup_append]
    refine ⟨h.nod, List.Pairwise.imp (R := ltP) (S := fun x y => x ≠ y) (fun {x y} (q : ltP x y) (z : x = y) => ltP_irrefl y (by rw [z] at q; exact q)) (ris_gpairs (ris_grp hL k)), fun p hp q hq z => ?_⟩
    subst z
    obtain ⟨k', h1, h2, h3⟩ := (h.mem p).1 hp
    have e : k' = k := (gp_key h3).symm.trans (gp_key hq)
    rw [e, hl] at h2
    cases h2
theorem met_start {κ : List Nat → List Nat} {L : List (List Nat)} {D : DataW Value} (h : ∀ k, IsH k → (Maps.has D (klit k) = true ↔ grp κ L k ≠ [])) : Met κ L (Maps.has D) [] := by
  refine ⟨fun p => ⟨fun q => by simp at q, ?_⟩, List.nodup_nil⟩
  rintro ⟨k, h1, h2, h3⟩
  have : grp κ L k = [] := by
    rcases Classical.em (grp κ L k = []) with e | e
    · exact e
    · rw [(h k h1).2 e] at h2; cases h2
  rw [this] at h3
  simp [gpairs] at h3
/-- all are met: sorted, they are the pairs -/
theorem Met.done {κ : List Nat → List Nat} {L : List (List Nat)} (hL : Ris L) (hK : ∀ s ∈ L, IsH (κ s)) {left : Lit → Bool} {P P' : List (List Nat × List Nat)} (h : Met κ L left P) (hl : ∀ kl, left kl = false) (hp : P'.Perm P) (hs : P'.Pairwise (fun x y => ¬ ltP y x)) : P' = pairsL κ L := by
  have nd : P'.Nodup := hp.nodup_iff.2 h.nod
  refine rise_eq ltP_irrefl ltP_trans ?_ (ris_pairsL hL) (fun p => ?_)
  · refine List.Pairwise.imp₂ (fun x y (h1 : ¬ ltP y x) (h2 : x ≠ y) => ?_) hs nd
    rcases ltP_tri x y with q | q | q
    · exact q
    · exact absurd q h2
    · exact absurd q h1
  · rw [hp.mem_iff, h.mem]
    obtain ⟨a, b⟩ := p
    rw [mem_pairsL hL]
    constructor
    · rintro ⟨k, _, _, h3⟩
      obtain ⟨ha, hb, hlt, hm⟩ := (mem_gpairs (ris_grp hL k)).1 h3
      obtain ⟨ha, ea⟩ := mem_grp.1 ha
      obtain ⟨hb, eb⟩ := mem_grp.1 hb
      exact ⟨ha, hb, ea.trans eb.symm, hlt, fun c hc e => hm c (mem_grp.2 ⟨hc, e.trans ea⟩)⟩
    · rintro ⟨ha, hb, e, hlt, hm⟩
      exact ⟨κ a, hK a ha, hl _, (mem_gpairs (ris_grp hL _)).2 ⟨mem_grp.2 ⟨ha, rfl⟩, mem_grp.2 ⟨hb, e.symm⟩, hlt, fun c hc => hm c (mem_grp.1 hc).1 (mem_grp.1 hc).2⟩⟩
end Go.Proofs.YtlhllbggnpcoaaaDoor
