import Derived.Test.YtlhllbggnpcoaaaDoorFso
import Derived.Test.YtlhllbggnpcoaaaDoorPal
import Derived.Test.YtlhllbggnpcoaaaDoorEql
/-
  Forgeries gathered.
-/
namespace Go.Proofs.YtlhllbggnpcoaaaDoor
open Go.RowKit Go.Sort Go.Maps

structure FAcc (w0 w : World) (v : Value) (Q : List FG) : Prop where
  below : Below w0.heap.size w0 w
  own : w.ownsRow w0.heap.size 47 33 v Q.length (Q.flatMap FG.enc)
  ok : ∀ q ∈ Q, FOk w w0.heap.size q
theorem FAcc.nil {w0 w : World} (h : Below w0.heap.size w0 w) : FAcc w0 w (.slice none 0 0) [] := ⟨h, World.ownsRow_nil _ _ _ _, fun q hq => by simp at hq⟩
theorem FAcc.turn {w0 w w' : World} {v : Value} {Q : List FG} {G : Nat → Prop} (h : FAcc w0 w v Q) (t : Turn G w w') (hG : ∀ i, G i → w0.heap.size ≤ i ∧ (i < w.heap.size → ∃ o, w.heap[i]? = some o ∧ ∀ cs e fz, o ≠ .cells cs e fz)) : FAcc w0 w' v Q := by
  refine ⟨h.below.trans (t.below (fun i q => (hG i q).1) h.below.size), own_turn h.own t (fun g hg q => ?_), fun q hq => (h.ok q hq).turn t (fun i q hi => ?_)⟩
  · obtain ⟨o, ho, hne⟩ := (hG g q).2 (h.own.lt g hg).2
    obtain ⟨cur, hc⟩ := own_block h.own hg
    rw [hc] at ho
    exact hne _ _ _ (Option.some.inj ho).symm
  · obtain ⟨o, ho, hne⟩ := (hG i q).2 hi
    exact ⟨o, ho, fun cs fz => hne cs 5 fz⟩
theorem FAcc.step {w0 w w' : World} {v : Value} {Q : List FG} (h : FAcc w0 w v Q) (hb : Below w.heap.size w w') : FAcc w0 w' v Q :=
  h.turn (Turn.of_below hb (F := fun _ => False)) (fun _ q => q.elim)
theorem frow_apart {w : World} {base size n : Nat} {v : Value} {xs : List Value} (h : w.ownsRow base 47 size v n xs) : ∀ i, v.ownBlock = some i → i < w.heap.size → ∃ o, w.heap[i]? = some o ∧ ∀ cs fz, o ≠ .cells cs 5 fz := fun i hi _ => by
  obtain ⟨cur, hc⟩ := own_block h hi
  exact ⟨_, hc, fun cs fz z => by injection z with _ z; exact absurd z (by decide)⟩
/-- one more -/
theorem FAcc.push {w0 wr w1 w3 : World} {v v1 v' : Value} {Q : List FG} {s k : List Nat} {o : Obj} (h : FAcc w0 wr v Q) (hb1 : Below wr.heap.size wr w1) (o1 : w1.ownsRow wr.heap.size 5 1 v1 s.length (bv s)) (ks : Bs s) (hk : IsH k)
    (own' : w3.ownsRow w0.heap.size 47 33 v' (Q.length + 1) (Q.flatMap FG.enc ++ (v1 :: bv k))) (gr : (w1.alloc o).grownBy w3 v.ownBlock) :
    FAcc w0 w3 v' (Q ++ [⟨v1, s, k⟩]) ∧ Turn (fun i => v.ownBlock = some i) wr w3 := by
  have h1 := h.step hb1
  have h2a := h1.step ((Below.refl _ _).alloc (Nat.le_refl _) o : Below w1.heap.size w1 (w1.alloc o))
  have t3 : Turn (fun i => v.ownBlock = some i) (w1.alloc o) w3 := Turn.of_grown gr (fun k e => e)
  have lo : ∀ i, v.ownBlock = some i → w0.heap.size ≤ i := fun i hi => (h.own.lt i hi).1
  have s1 : Str (w1.alloc o) (fun i => w0.heap.size ≤ i) v1 s := by
    refine ⟨?_, fun g hg => ?_, ks⟩
    · have := own_turn o1 (Turn.alloc w1 o (F := fun _ => False)) (fun _ _ q => q)
      exact ⟨this.1, this.2.imp id (fun ⟨g, cap, cur, e1, _, r⟩ => ⟨g, cap, cur, e1, Nat.zero_le _, r⟩)⟩
    · exact Nat.le_trans h.below.size (o1.lt g hg).1
  have hn : FOk (w1.alloc o) w0.heap.size ⟨v1, s, k⟩ := ⟨s1, hk⟩
  have ra := frow_apart h2a.own
  refine ⟨⟨h2a.below.trans (t3.below lo h2a.below.size), by simpa [FG.enc] using own', fun q hq => ?_⟩, ?_⟩
  · rcases List.mem_append.1 hq with hq | hq
    · exact (h2a.ok q hq).turn t3 ra
    · rw [List.mem_singleton] at hq
      subst hq
      exact hn.turn t3 ra
  · exact ((Turn.of_below hb1 (F := fun i => v.ownBlock = some i)).trans (Turn.alloc w1 o (F := fun i => v.ownBlock = some i)) (fun _ q => Or.inl q)).trans t3 (fun _ q => Or.inl q)

/-- WHAT IS GATHERED SO FAR: the strings whose keys have been met. -/
structure MetF (κ : List Nat → List Nat) (L : List (List Nat)) (left : Lit → Bool) (P : List (List Nat)) : Prop where
  mem : ∀ s, s ∈ P ↔ s ∈ L ∧ left (klit (κ s)) = false
  nod : P.Nodup
theorem MetF.next {κ : List Nat → List Nat} {L : List (List Nat)} (hL : Ris L) (hK : ∀ s ∈ L, IsH (κ s)) {left : Lit → Bool} {P : List (List Nat)} (h : MetF κ L left P) {k : List Nat} (hk : IsH k) (hl : left (klit k) = true) : MetF κ L (fun z => left z && !z.sameKey (klit k)) (P ++ grp κ L k) := by
  have same : ∀ s ∈ L, ((klit (κ s)).sameKey (klit k) = true ↔ κ s = k) := fun s hs => by
    rw [WideAt.sameKey_iff (klit_key hk)]
    exact ⟨fun e => klit_inj (hK s hs) hk e, fun e => by rw [e]⟩
  refine ⟨fun s => ?_, ?_⟩
  · rw [List.mem_append, h.mem, mem_grp]
    constructor
    · rintro (⟨h1, h2⟩ | ⟨h1, h2⟩)
      · exact ⟨h1, by rw [h2]; rfl⟩
      · exact ⟨h1, by rw [(same s h1).2 h2]; simp⟩
    · rintro ⟨h1, h2⟩
      by_cases e : κ s = k
      · exact Or.inr ⟨h1, e⟩
      · refine Or.inl ⟨h1, ?_⟩
        have : (klit (κ s)).sameKey (klit k) = false := by
          cases q : (klit (κ s)).sameKey (klit k) with
          | false => rfl
          | true => exact absurd ((same s h1).1 q) e
        rw [this] at h2
        simpa using h2
  · rw [List.nodup_append]
    refine ⟨h.nod, List.Pairwise.imp (R := lt) (S := fun x y => x ≠ y) (fun {x y} (q : lt x y) (z : x = y) => lt_irrefl y (by rw [z] at q; exact q)) (ris_grp hL k), fun p hp q hq z => ?_⟩
    subst z
    have h1 := ((h.mem p).1 hp).2
    rw [(mem_grp.1 hq).2, hl] at h1
    cases h1
theorem metf_start {κ : List Nat → List Nat} {L : List (List Nat)} {D : DataW Value} (hK : ∀ s ∈ L, IsH (κ s)) (h : ∀ k, IsH k → (Maps.has D (klit k) = true ↔ grp κ L k ≠ [])) : MetF κ L (Maps.has D) [] := by
  refine ⟨fun s => ⟨fun q => by simp at q, ?_⟩, List.nodup_nil⟩
  rintro ⟨h1, h2⟩
  have : Maps.has D (klit (κ s)) = true := (h _ (hK s h1)).2 (fun e => by have q : s ∈ grp κ L (κ s) := mem_grp.2 ⟨h1, rfl⟩; rw [e] at q; simp at q)
  rw [this] at h2
  cases h2
theorem MetF.done {κ : List Nat → List Nat} {L : List (List Nat)} (hL : Ris L) {left : Lit → Bool} {P P' : List (List Nat)} (h : MetF κ L left P) (hl : ∀ kl, left kl = false) (hp : P'.Perm P) (hs : P'.Pairwise (fun x y => ¬ lt y x)) : P' = L := by
  have nd : P'.Nodup := hp.nodup_iff.2 h.nod
  refine rise_eq lt_irrefl (fun _ _ _ => lt_trans) ?_ hL (fun p => ?_)
  · refine List.Pairwise.imp₂ (fun x y (h1 : ¬ lt y x) (h2 : x ≠ y) => ?_) hs nd
    rcases lt_tri x y with q | q | q
    · exact q
    · exact absurd q h2
    · exact absurd q h1
  · rw [hp.mem_iff, h.mem]
    exact ⟨fun q => q.1, fun q => ⟨q, hl _⟩⟩
theorem MetF.le {κ : List Nat → List Nat} {L : List (List Nat)} {left : Lit → Bool} {P : List (List Nat)} (h : MetF κ L left P) : P.length ≤ L.length := nodup_le h.nod (fun x hx => ((h.mem x).1 hx).1)
structure FOut (w : World) (B : Nat) (v : Value) (Q : List FG) : Prop where
  own : w.ownsRow B 47 33 v Q.length (Q.flatMap FG.enc)
  ok : ∀ q ∈ Q, FOk w B q
theorem FOut.turn {w w' : World} {B : Nat} {v : Value} {Q : List FG} {G : Nat → Prop} (h : FOut w B v Q) (t : Turn G w w') (hG : ∀ i, G i → i < w.heap.size → i < B) : FOut w' B v Q :=
  ⟨own_turn h.own t (fun g hg q => by have := h.own.lt g hg; have := hG g q this.2; omega), fun q hq => ⟨(h.ok q hq).str.turn t (fun i hi hl q => by have := hG i q hl; omega), (h.ok q hq).key⟩⟩
end Go.Proofs.YtlhllbggnpcoaaaDoor

/-
  Operations of a region that draws its order, each by a law of its own (a great frame makes the walk's own reckoning slow).
-/
namespace Go.Proofs.YtlhllbggnpcoaaaDoor
open Go.RowKit

section
variable {ops : Array Oper} {S : World → Prop} {o : Oper} {a : Act}
theorem y_move (hw : Region.wanted o (yielded ops a.tmps) = true) (x : Operand) (ho : o.op = .move x) (v : Value) (hx : a.eval x = v) : YieldsIf Tryd.prog ops S o v a :=
  .inl ⟨hw, fun w _ => by unfold execOp; simp only [ho, hx]; rfl⟩
theorem y_assign (hw : Region.wanted o (yielded ops a.tmps) = true) (x : Operand) (ho : o.op = .assign x) (v : Value) (hx : a.eval x = v) : YieldsIf Tryd.prog ops S o v a :=
  .inl ⟨hw, fun w _ => by unfold execOp; simp only [ho, hx]; rfl⟩
theorem y_indexP (hw : Region.wanted o (yielded ops a.tmps) = true) (x i : Operand) (ho : o.op = .indexAddr 39 x i) (g n c j : Nat) (hx : a.eval x = .slice (some ⟨g, 0, none⟩) n c) (hi : a.eval i = .int .i64 j) (hj : j < n) : YieldsIf Tryd.prog ops S o (.pointer (some ⟨g, j * 2, none⟩)) a :=
  .inl ⟨hw, fun w _ => by
    have q : (j : Int) < (n : Int) := by omega
    unfold execOp
    simp only [ho, hx, hi]
    go_simp⟩
theorem y_fieldP (hw : Region.wanted o (yielded ops a.tmps) = true) (x : Operand) (f : Nat) (ho : o.op = .fieldAddr 43 x f) (g p : Nat) (hx : a.eval x = .pointer (some ⟨g, p, none⟩)) (hf : f < 2) : YieldsIf Tryd.prog ops S o (.pointer (some ⟨g, p + f, none⟩)) a :=
  .inl ⟨hw, fun w _ => by
    unfold execOp
    simp only [ho, hx]
    rcases (by omega : f = 0 ∨ f = 1) with rfl | rfl
    · go_simp
    · go_simp⟩
theorem y_loadB (hw : Region.wanted o (yielded ops a.tmps) = true) (x : Operand) (ho : o.op = .load 22 x) (g p : Nat) (hx : a.eval x = .pointer (some ⟨g, p, none⟩)) (v : Value) (hS : ∀ w, S w → w.cell? ⟨g, p, none⟩ = some v) : YieldsIf Tryd.prog ops S o v a :=
  .inl ⟨hw, fun w hs => by
    have c := hS w hs
    unfold execOp
    simp only [ho, hx]
    go_simp⟩
theorem y_geqm (hw : Region.wanted o (yielded ops a.tmps) = true) (x : Operand) (ho : o.op = .binOp .geq 3 x (.const (.int .i64 0)) 3) (hx : a.eval x = .int .i64 (-1)) : YieldsIf Tryd.prog ops S o (.bool false) a :=
  .inl ⟨hw, fun w _ => by
    unfold execOp
    simp only [ho, hx]
    go_simp⟩
theorem y_neqH (hw : Region.wanted o (yielded ops a.tmps) = true) (x y : Operand) (ho : o.op = .binOp .neq 31 x y 31) (u : Array Value) (hx : a.eval x = .agg u) (hy : a.eval y = .agg u) (he : ∀ w0 : World, (Op.equalIn 10000 31 (.agg u) (.agg u)).run Tryd.prog w0 = .ok true w0) : YieldsIf Tryd.prog ops S o (.bool false) a :=
  .inl ⟨hw, fun w _ => by
    unfold execOp
    simp only [ho, hx, hy]
    go_simp⟩
theorem y_pick_f (hw : Region.wanted o (yielded ops a.tmps) = true) (x y z : Operand) (ho : o.op = .pick x y z) (v : Value) (hx : a.eval x = .bool false) (hz : a.eval z = v) : YieldsIf Tryd.prog ops S o v a :=
  .inl ⟨hw, fun w _ => by
    unfold execOp
    simp only [ho, hx, hz]
    go_simp⟩
/-- a call of a function of two arguments -/
theorem r_call2 {Q : Exit → Act → World → Prop} {w : World} {K : Act → World → Prop} (f : Nat) (x y : Operand) (ts : Array TypeId) (ho : o.op = .call { callee := .value (.func f), args := #[x, y], argTypes := ts }) (hw : Region.wanted o (yielded ops a.tmps) = true) (u v : Value) (hx : a.eval x = u) (hy : a.eval y = v)
    (eg : ∀ args w, (callFunc f args).run Tryd.prog w = .ok (.enter f args) w) (hc : Calls Tryd.prog f #[u, v] w fun e w' => ∃ z, e = .returned z ∧ K (a.put o.dst z) w') :
    if Region.wanted o (yielded ops a.tmps) = true then Oper.wp Tryd.prog o a w K Q else K (a.put o.dst undef) w := by
  rw [if_pos hw]
  have e : (execOp a.eval o).run Tryd.prog w = .ok (.enter f #[u, v]) w := by
    unfold execOp
    have := eg #[u, v] w
    simp only [ho, resolve, List.map_toArray, List.map_cons, List.map_nil, hx, hy]
    go_simp
  unfold Oper.wp
  rw [e, Oper.upon_enter]
  refine hc.mono ?_
  rintro _ w' ⟨z, rfl, h⟩
  exact h
end
end Go.Proofs.YtlhllbggnpcoaaaDoor
