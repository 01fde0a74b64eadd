import Derived.Test.YtlhllbggnpcoaaaGreatDoorPso
import Derived.Test.YtlhllbggnpcoaaaGreatDoorRefC
import Derived.Test.YtlhllbggnpcoaaaGreatDoorPlc
import Derived.Maps.RangeWalk
import Derived.Test.YtlhllbggnpcoaaaGreatDoorFx
/-
  Pairs gathered.
-/
namespace Go.Proofs.YtlhllbggnpcoaaaGreatDoor
open Go.RowKit Go.Sort Go.Maps

theorem ranges_turn {H : Type} {P : Program} {k : TypeId} {R : Value → Option (DataW H × List MemPlace)} {w w' : World} {b r n cnt : Nat} {D : DataW H} {left : Lit → Bool} {F : Nat → Prop} (h : w.ranges P k R b r n D left cnt) (t : Turn F w w') (hb : ¬ F b) (hr : ¬ F r) : w'.ranges P k R b r n D left cnt := by
  have l1 := h.lt
  have l2 := h.owns.lt
  obtain ⟨es, clock, since, seen, c0, h1, h2, h3, h4, h5, rest⟩ := h
  exact ⟨es, clock, since, seen, c0, (t.block b l2 hb).trans h1, h2, h3, h4, (t.block r l1 hr).trans h5, rest⟩
theorem own_ne_iter {w : World} {base e size m : Nat} {v : Value} {xs : List Value} (h : w.ownsRow base e size v m xs) {H : Type} {P : Program} {k : TypeId} {R : Value → Option (DataW H × List MemPlace)} {b r n cnt : Nat} {D : DataW H} {left : Lit → Bool} (hm : w.ranges P k R b r n D left cnt) : v.ownBlock ≠ some r := by
  intro z
  obtain ⟨es, clock, since, seen, c0, h1, h2, h3, h4, h5, rest⟩ := hm
  obtain ⟨cur, hc⟩ := own_block h z
  rw [h5] at hc
  cases hc

/-- two slices that have no block in common -/
def Sep (u v : Value) : Prop := ∀ g, u.ownBlock = some g → v.ownBlock ≠ some g
theorem Sep.symm {u v : Value} (h : Sep u v) : Sep v u := fun g h1 h2 => h g h2 h1
theorem sep_perm {l1 l2 : List Value} (h : l1.Perm l2) : l1.Pairwise Sep ↔ l2.Pairwise Sep := h.pairwise_iff (fun {_ _} h => h.symm)
structure PAcc (w0 w : World) (v : Value) (Q : List PR) : Prop where
  below : Below w0.heap.size w0 w
  own : w.ownsRow w0.heap.size 94 2 v Q.length (Q.flatMap PR.enc)
  ok : ∀ q ∈ Q, POk w w0.heap.size q
  sep : (Q.flatMap PR.enc).Pairwise Sep
theorem PAcc.nil {w0 w : World} (h : Below w0.heap.size w0 w) : PAcc w0 w (.slice none 0 0) [] := ⟨h, World.ownsRow_nil _ _ _ _, fun q hq => by simp at hq, List.Pairwise.nil⟩
/-- what only makes memory, or turns a block that is none of ours -/
theorem PAcc.turn {w0 w w' : World} {v : Value} {Q : List PR} {G : Nat → Prop} (h : PAcc w0 w v Q) (t : Turn G w w') (hG : ∀ i, G i → w0.heap.size ≤ i ∧ (i < w.heap.size → ∃ o, w.heap[i]? = some o ∧ ∀ cs e fz, o ≠ .cells cs e fz)) : PAcc w0 w' v Q := by
  refine ⟨h.below.trans (t.below (fun i q => (hG i q).1) h.below.size), own_turn h.own t (fun g hg q => ?_), fun q hq => (h.ok q hq).turn t (fun i q hi => ?_), h.sep⟩
  · obtain ⟨o, ho, hne⟩ := (hG g q).2 (h.own.lt g hg).2
    obtain ⟨cur, hc⟩ := own_block h.own hg
    rw [hc] at ho
    exact hne _ _ _ (Option.some.inj ho).symm
  · obtain ⟨o, ho, hne⟩ := (hG i q).2 hi
    exact ⟨o, ho, fun cs fz => hne cs 5 fz⟩
theorem PAcc.step {w0 w w' : World} {v : Value} {Q : List PR} (h : PAcc w0 w v Q) (hb : Below w.heap.size w w') : PAcc w0 w' v Q :=
  h.turn (Turn.of_below hb (F := fun _ => False)) (fun _ q => q.elim)
theorem row_apart {w : World} {base size n : Nat} {v : Value} {xs : List Value} (h : w.ownsRow base 94 size v n xs) : ∀ i, v.ownBlock = some i → i < w.heap.size → ∃ o, w.heap[i]? = some o ∧ ∀ cs fz, o ≠ .cells cs 5 fz := fun i hi _ => by
  obtain ⟨cur, hc⟩ := own_block h hi
  exact ⟨_, hc, fun cs fz z => by injection z with _ z; exact absurd z (by decide)⟩
/-- one more -/
theorem PAcc.push {w0 wr w1 w2 w3 : World} {v v1 v2 v' : Value} {Q : List PR} {a b : List Nat} {o : Obj} (h : PAcc w0 wr v Q) (hb1 : Below wr.heap.size wr w1) (o1 : w1.ownsRow wr.heap.size 5 1 v1 a.length (bv a)) (ka : Bs a)
    (hb2 : Below w1.heap.size w1 w2) (o2 : w2.ownsRow w1.heap.size 5 1 v2 b.length (bv b)) (kb : Bs b)
    (own' : w3.ownsRow w0.heap.size 94 2 v' (Q.length + 1) (Q.flatMap PR.enc ++ [v1, v2])) (gr : (w2.alloc o).grownBy w3 v.ownBlock) :
    PAcc w0 w3 v' (Q ++ [⟨v1, a, v2, b⟩]) ∧ Turn (fun i => v.ownBlock = some i) wr w3 := by
  have h1 := h.step hb1
  have h2 := h1.step hb2
  have h2a := h2.step ((Below.refl _ _).alloc (Nat.le_refl _) o : Below w2.heap.size w2 (w2.alloc o))
  have t3 : Turn (fun i => v.ownBlock = some i) (w2.alloc o) w3 := Turn.of_grown gr (fun k e => e)
  have lo : ∀ i, v.ownBlock = some i → w0.heap.size ≤ i := fun i hi => (h.own.lt i hi).1
  have s1 : Str (w2.alloc o) (fun i => w0.heap.size ≤ i) v1 a := by
    refine ⟨?_, fun g hg => ?_, ka⟩
    · have := own_turn (own_turn o1 (Turn.of_below hb2 (F := fun _ => False)) (fun _ _ q => q)) (Turn.alloc w2 o (F := fun _ => False)) (fun _ _ q => q)
      exact ⟨this.1, this.2.imp id (fun ⟨g, cap, cur, e1, _, r⟩ => ⟨g, cap, cur, e1, Nat.zero_le _, r⟩)⟩
    · exact Nat.le_trans h.below.size (o1.lt g hg).1
  have s2 : Str (w2.alloc o) (fun i => w0.heap.size ≤ i) v2 b := by
    refine ⟨?_, fun g hg => ?_, kb⟩
    · have := own_turn o2 (Turn.alloc w2 o (F := fun _ => False)) (fun _ _ q => q)
      exact ⟨this.1, this.2.imp id (fun ⟨g, cap, cur, e1, _, r⟩ => ⟨g, cap, cur, e1, Nat.zero_le _, r⟩)⟩
    · exact Nat.le_trans h1.below.size (o2.lt g hg).1
  have hn : POk (w2.alloc o) w0.heap.size ⟨v1, a, v2, b⟩ := ⟨s1, s2⟩
  have ra := row_apart h2a.own
  refine ⟨⟨h2a.below.trans (t3.below lo h2a.below.size), by simpa [PR.enc] using own', fun q hq => ?_, ?_⟩, ?_⟩
  · rcases List.mem_append.1 hq with hq | hq
    · exact (h2a.ok q hq).turn t3 ra
    · rw [List.mem_singleton] at hq
      subst hq
      exact hn.turn t3 ra
  · have old : ∀ u ∈ Q.flatMap PR.enc, ∀ g, u.ownBlock = some g → g < wr.heap.size := fun u hu g hg => by
      obtain ⟨q, hq, hu⟩ := List.mem_flatMap.1 hu
      simp only [PR.enc, List.mem_cons, List.not_mem_nil, or_false] at hu
      rcases hu with rfl | rfl
      · exact ((h.ok q hq).sa.own.lt g hg).2
      · exact ((h.ok q hq).sb.own.lt g hg).2
    have e : (Q ++ [(⟨v1, a, v2, b⟩ : PR)]).flatMap PR.enc = Q.flatMap PR.enc ++ [v1, v2] := by simp [PR.enc]
    rw [e, List.pairwise_append]
    refine ⟨h.sep, List.pairwise_cons.2 ⟨fun x hx g h1 h2 => ?_, List.pairwise_singleton _ _⟩, fun u hu x hx g h1 h2 => ?_⟩
    · rw [List.mem_singleton] at hx
      subst hx
      have := (o1.lt g h1).2
      have := (o2.lt g h2).1
      omega
    · have l := old u hu g h1
      simp only [List.mem_cons, List.not_mem_nil, or_false] at hx
      rcases hx with rfl | rfl
      · have := (o1.lt g h2).1
        omega
      · have := (o2.lt g h2).1
        have := hb1.size
        omega
  · exact (((Turn.of_below hb1 (F := fun i => v.ownBlock = some i)).trans (Turn.of_below hb2 (F := fun i => v.ownBlock = some i)) (fun _ q => Or.inl q)).trans (Turn.alloc w2 o (F := fun i => v.ownBlock = some i)) (fun _ q => Or.inl q)).trans t3 (fun _ q => Or.inl q)

/-- WHAT IS GATHERED SO FAR: the groups whose keys have been met. -/
structure Met (κ : List Nat → List Nat) (L : List (List Nat)) (left : Lit → Bool) (P : List (List Nat × List Nat)) : Prop where
  mem : ∀ p, p ∈ P ↔ ∃ k, IsH k ∧ left (klit k) = false ∧ p ∈ gpairs (grp κ L k)
  nod : P.Nodup
theorem gp_key {κ : List Nat → List Nat} {L : List (List Nat)} {k : List Nat} {p : List Nat × List Nat} (h : p ∈ gpairs (grp κ L k)) : κ p.1 = k := by
  have h1 := gpairs_fst h
  have : p.1 ∈ grp κ L k := List.mem_of_mem_head? (by rw [h1]; rfl)
  exact (mem_grp.1 this).2
theorem Met.next {κ : List Nat → List Nat} {L : List (List Nat)} (hL : Ris L) {left : Lit → Bool} {P : List (List Nat × List Nat)} (h : Met κ L left P) {k : List Nat} (hk : IsH k) (hl : left (klit k) = true) : Met κ L (fun z => left z && !z.sameKey (klit k)) (P ++ gpairs (grp κ L k)) := by
  refine ⟨fun p => ?_, ?_⟩
  · rw [List.mem_append, h.mem]
    constructor
    · rintro (⟨k', h1, h2, h3⟩ | h3)
      · exact ⟨k', h1, by rw [h2]; rfl, h3⟩
      · exact ⟨k, hk, by rw [(WideAt.sameKey_iff (klit_key hk)).2 rfl]; simp, h3⟩
    · rintro ⟨k', h1, h2, h3⟩
      by_cases e : k' = k
      · subst e; exact Or.inr h3
      · refine Or.inl ⟨k', h1, ?_, h3⟩
        have : (klit k').sameKey (klit k) = false := by
          cases q : (klit k').sameKey (klit k) with
          | false => rfl
          | true => exact absurd (klit_inj h1 hk ((WideAt.sameKey_iff (klit_key hk)).1 q)) e
        rw [this] at h2
        simpa using h2
  · rw [List.nodup_append]
    refine ⟨h.nod, List.Pairwise.imp (R := ltP) (S := fun x y => x ≠ y) (fun {x y} (q : ltP x y) (z : x = y) => ltP_irrefl y (by rw [z] at q; exact q)) (ris_gpairs (ris_grp hL k)), fun p hp q hq z => ?_⟩
    subst z
    obtain ⟨k', h1, h2, h3⟩ := (h.mem p).1 hp
    have e : k' = k := (gp_key h3).symm.trans (gp_key hq)
    rw [e, hl] at h2
    cases h2
theorem met_start {κ : List Nat → List Nat} {L : List (List Nat)} {D : DataW Value} (h : ∀ k, IsH k → (Maps.has D (klit k) = true ↔ grp κ L k ≠ [])) : Met κ L (Maps.has D) [] := by
  refine ⟨fun p => ⟨fun q => by simp at q, ?_⟩, List.nodup_nil⟩
  rintro ⟨k, h1, h2, h3⟩
  have : grp κ L k = [] := by
    rcases Classical.em (grp κ L k = []) with e | e
    · exact e
    · rw [(h k h1).2 e] at h2; cases h2
  rw [this] at h3
  simp [gpairs] at h3
/-- all are met: sorted, they are the pairs -/
theorem Met.done {κ : List Nat → List Nat} {L : List (List Nat)} (hL : Ris L) (hK : ∀ s ∈ L, IsH (κ s)) {left : Lit → Bool} {P P' : List (List Nat × List Nat)} (h : Met κ L left P) (hl : ∀ kl, left kl = false) (hp : P'.Perm P) (hs : P'.Pairwise (fun x y => ¬ ltP y x)) : P' = pairsL κ L := by
  have nd : P'.Nodup := hp.nodup_iff.2 h.nod
  refine rise_eq ltP_irrefl ltP_trans ?_ (ris_pairsL hL) (fun p => ?_)
  · refine List.Pairwise.imp₂ (fun x y (h1 : ¬ ltP y x) (h2 : x ≠ y) => ?_) hs nd
    rcases ltP_tri x y with q | q | q
    · exact q
    · exact absurd q h2
    · exact absurd q h1
  · rw [hp.mem_iff, h.mem]
    obtain ⟨a, b⟩ := p
    rw [mem_pairsL hL]
    constructor
    · rintro ⟨k, _, _, h3⟩
      obtain ⟨ha, hb, hlt, hm⟩ := (mem_gpairs (ris_grp hL k)).1 h3
      obtain ⟨ha, ea⟩ := mem_grp.1 ha
      obtain ⟨hb, eb⟩ := mem_grp.1 hb
      exact ⟨ha, hb, ea.trans eb.symm, hlt, fun c hc e => hm c (mem_grp.2 ⟨hc, e.trans ea⟩)⟩
    · rintro ⟨ha, hb, e, hlt, hm⟩
      exact ⟨κ a, hK a ha, hl _, (mem_gpairs (ris_grp hL _)).2 ⟨mem_grp.2 ⟨ha, rfl⟩, mem_grp.2 ⟨hb, e.symm⟩, hlt, fun c hc => hm c (mem_grp.1 hc).1 (mem_grp.1 hc).2⟩⟩
end Go.Proofs.YtlhllbggnpcoaaaGreatDoor

/-
  A book: Forgeries, where there are none.
-/
namespace Go.Proofs.YtlhllbggnpcoaaaGreatDoor
open Go.RowKit Go.Sort Go.Maps Go.MuLone

theorem sortF_none (p : Option Addr) (cap : Nat) (fv : Value) (w : World) : Calls Tryz.prog 35 #[.slice p 0 cap, fv] w fun e w' => e = .returned (.tuple #[]) ∧ w' = w := AnyF.slices_SortFunc_none sortF p cap fv w
theorem key_shape (key : Value) (kl : Lit) (h : keyOf Tryz.prog 31 key = some kl) : ∃ k : List Nat, key = (fun k : List Nat => Value.agg (hA k)) k := by
  obtain ⟨k, _, e, _⟩ := key_inv h
  exact ⟨k, e⟩
theorem val_shape (v : Value) (y : DataW Value × List MemPlace) (_ : holdR v = some y) : ∃ c : Value, v = (fun v : Value => v) c := ⟨v, rfl⟩
theorem no_keys {D : DataW Value} (h : Maps.IsMap D) (h0 : Maps.size D = 0) (kl : Lit) : Maps.has D kl = false := by
  obtain ⟨es, rfl⟩ := h
  have : es = [] := List.length_eq_zero_iff.1 h0
  subst this
  rfl

set_option maxRecDepth 100000 in
set_option maxHeartbeats 1600000 in
theorem forgeries_none (w : World) (B sb : Nat) (st : Bst) (F : Nat → Prop) (h : Book w B sb st F) (hL : st.LF = []) :
    Calls Tryz.prog 14 #[.pointer (some ⟨sb, 0, none⟩)] w fun e w' => e = .returned (.slice none 0 0) ∧ Turned w w' B sb st F := by
  obtain ⟨bh, bc, bf, Fh, Fc, Ff, hx, hF⟩ := h
  have lk := lock_free muLib ⟨sb, 34, none⟩ w hx.state (hx.frozen 34)
  have hx2 := hx.lock 1
  have t2 : Turn F w (w.setCell ⟨sb, 34, none⟩ (.int .i32 1)) := Turn.setCell w _ _ ((hF sb).2 (Or.inl rfl))
  obtain ⟨w2, hw2⟩ : ∃ w2, w2 = w.setCell ⟨sb, 34, none⟩ (.int .i32 1) := ⟨_, rfl⟩
  rw [← hw2] at lk hx2 t2
  have cm : w2.cell? ⟨sb, 40, none⟩ = some (.map (some bf)) := hx2.natF.map
  obtain ⟨D, V, n, N⟩ := hx2.nf
  have hsz : Maps.size D = 0 := by have := N.cnt.1; rw [hL] at this; simpa using this
  have HN : Hid (w2.ownsMap Tryz.prog 31 holdR bf n D ∧ Maps.size D = 0) := ⟨N.map, hsz⟩
  have HX : Hid (BookX w2 B sb st 1 bh bc bf Fh Fc Ff ∧ Turn F w w2 ∧ (∀ i, F i ↔ i = sb ∨ Fh i ∨ Fc i ∨ Ff i)) := ⟨hx2, t2, hF⟩
  clear hx hx2 hF t2 hw2 N hsz
  go_enter_defers Tryz.func14, Tryz.ntmps14
  go_wp2_with (first
    | (go_at_call 24; refine lk.mono ?_; rintro _ w' ⟨rfl, hw'⟩; have hw'' := hw'.symm; subst hw'')
    | (at_range; refine wpList_range_own _ (by rfl) _ 53 (by rfl) 31 71 keyed info_map holdR bf n D (by rfl) HN.out.1 ?_; intro w3 hrg hg3 hs3))
  go_frame
  have HR : Hid (w3.ranges Tryz.prog 31 holdR bf w2.heap.size n D (Maps.has D) (Maps.size D) ∧ w2.grownBy w3 none) := ⟨hrg, hg3⟩
  clear hrg hg3 hs3 lk cm
  go_loopg [3] 0 (fun g v wr => g = 0 ∧ v = .slice none 0 0 ∧ wr = w3)
  case atStart => exact ⟨rfl, rfl, rfl⟩
  case round =>
    obtain ⟨rfl, rfl, hwr⟩ := hrel
    have hwr' := hwr.symm
    subst hwr'
    go_wp2_with (at_next; refine wpList_next_ranges _ (by rfl) _ (by rfl) 31 keyed holdR (fun k : List Nat => Value.agg (hA k)) (fun v : Value => v) key_shape val_shape bf w2.heap.size n D _ _ (by rfl) HR.out.1 ?_ ?_)
    · intro hz hno
      go_wp2_with fail
      refine (sortF_none none 0 _ w3).mono ?_
      rintro _ w' ⟨rfl, hw'⟩
      have hw'' := hw'.symm
      subst hw''
      have HC : Hid (Turn F w2 w3 ∧ Below w2.heap.size w2 w3) := ⟨Turn.of_grown HR.out.2 (fun k e => (nomatch e)), (Turn.of_grown (F := fun _ => False) HR.out.2 (fun k e => (nomatch e))).below (fun _ q => q.elim) (Nat.le_refl _)⟩
      have hx9 := HX.out.1.below HC.out.2
      go_wp2_with fail
      refine leaves_cons (f := 25) (args := #[.pointer (some ⟨sb, 34, none⟩)]) (by simp) (by simp [go_sem]) ?_
      refine (unlock_deferred muLib ⟨sb, 34, none⟩ .returning _ hx9.state (hx9.frozen 34)).mono ?_
      rintro e u' w'' ⟨rfl, rfl, rfl⟩
      refine ⟨_, results_tmp rfl _ _ _, rfl, ?_⟩
      have hF := HX.out.2.2
      exact book_close hx9 (HX.out.2.1.trans HC.out.1 (fun i q => Or.inl q)) ((hF sb).2 (Or.inl rfl)) (fun i q => (hF i).1 q) (fun i q => Or.inl ((hF i).2 (Or.inr q)))
    · intro _ _ kl _ _ _ _ _ hk
      rw [no_keys HN.out.1.isMap HN.out.2 kl] at hk
      cases hk
end Go.Proofs.YtlhllbggnpcoaaaGreatDoor
