import Derived.Test.YtlhllbggnpcoaaaGreatDoorRPl
import Derived.Test.YtlhllbggnpcoaaaGreatDoorRefC
import Derived.Test.YtlhllbggnpcoaaaGreatDoorPlc
import Derived.Test.YtlhllbggnpcoaaaGreatDoorYl2
import Derived.Great.BuildSlice
import Derived.Laws.AppendOwnNone
import Derived.Test.YtlhllbggnpcoaaaGreatDoorPpr
/-
  cairnref04.note.
-/
namespace Go.Proofs.YtlhllbggnpcoaaaGreatDoor
open Go.RowKit Go.Sort Go.Maps

theorem elemNt : Tryz.prog.elem 77 = 105 := by kernel_rfl
theorem infoNt : (Tryz.prog.info? 105).map (fun i => (i.zero, i.size, i.bytes)) = some (some (.agg (nilS :: bv (List.replicate 32 0)).toArray), 33, 56) := by kernel_rfl
theorem sizeNt (w : World) : (sizeOf 105).run Tryz.prog w = .ok 33 w := Tryz.sizeOf105 w
theorem slice_uptoN (a : Option Addr) (n c K : Nat) (h : K ≤ c) (w : World) : (Instr.slice 77 (.slice a n c) none (some (.int .i64 K)) none).run Tryz.prog w = .ok (.slice a K c) w := by
  rw [run_slice_h w 77 a n c (by rw [elemNt]; exact Tryz.underlying77) .i64 K (by omega) (by omega), elemNt, sizeNt]
  simp only [Result.andThen, sliced]
  congr 1
  cases a <;> simp [Addr.add]
theorem sliceAt_uptoN (a : Option Addr) (n c K : Nat) (h : K ≤ c) (w : World) : (Instr.sliceAt 77 (.slice a n c) none (some (.int .i64 K)) none).run Tryz.prog w = .ok (.slice a K c) w := by
  rw [run_sliceAt_slice w 77 _ _ _ _ (by rw [elemNt]; exact Tryz.underlying77), slice_uptoN a n c K h w]
def behindN (a : Option Addr) (c K : Nat) : Option Addr := if c = K then a else a.map (·.add (K * 33))
theorem slice_fromN (a : Option Addr) (n c K : Nat) (h : K ≤ n) (w : World) : (Instr.slice 77 (.slice a n c) (some (.int .i64 K)) none none).run Tryz.prog w = .ok (.slice (behindN a c K) (n - K) (c - K)) w := by
  rw [run_slice_l w 77 a n c (by rw [elemNt]; exact Tryz.underlying77) .i64 K (by omega) (by omega), elemNt, sizeNt]
  simp only [Result.andThen, sliced, behindN]
  simp
theorem sliceAt_fromN (a : Option Addr) (n c K : Nat) (h : K ≤ n) (w : World) : (Instr.sliceAt 77 (.slice a n c) (some (.int .i64 K)) none none).run Tryz.prog w = .ok (.slice (behindN a c K) (n - K) (c - K)) w := by
  rw [run_sliceAt_slice w 77 _ _ _ _ (by rw [elemNt]; exact Tryz.underlying77), slice_fromN a n c K h w]

/-- rows appended to a list that is the call's own -/
theorem wpList_append_rows {w : World} {ops : Array Oper} {rest : List Oper} {o : Oper} {a : Act} {Q : Exit → Act → World → Prop} (hgd : o.guard = none) (s x : Operand)
    (ho : o.op = .call { callee := .builtin .append, args := #[s, x], argTypes := #[77, 77] }) (base : Nat) (v : Value) (k : Nat) (xs : List Value) (hs : a.eval s = v) (hown : w.ownsRow base 105 33 v k xs)
    (sa : Option Addr) (n c : Nat) (news : List Value) (hx : a.eval x = .slice sa n c) (hl : news.length = n * 33) (hnil : sa = none → n = 0 ∧ c = 0) (hc : ∀ ad, sa = some ad → ∀ j u, news[j]? = some u → w.cell? (ad.add j) = some u) (h1 : ∀ u ∈ news, u.oneCell' = true) (hk : k + n ≤ 549755813888) (hbase : base ≤ w.heap.size)
    (h : ∀ v' w', w'.ownsRow base 105 33 v' (k + n) (xs ++ news) → w.grownBy w' v.ownBlock → (v' = .slice none 0 0 → v = .slice none 0 0) → wpList Tryz.prog ops Q rest (a.put o.dst v') w') : wpList Tryz.prog ops Q (o :: rest) a w := by
  obtain ⟨i0, hi0, hz0, hz1, hz2⟩ := info_parts infoNt
  cases sa with
  | none =>
    obtain ⟨rfl, rfl⟩ := hnil rfl
    have : news = [] := List.length_eq_zero_iff.1 (by omega)
    subst this
    refine wpList_append_own_none hgd s x 77 ho base 105 i0 33 Tryz.underlying77 hi0 v k xs hs hown hx ?_
    refine h v w ?_ ⟨rfl, rfl, rfl, Nat.le_refl _, fun _ _ _ => rfl⟩ id
    simpa using hown
  | some p =>
    exact wpList_append_own _ hgd s x 77 ho base 105 i0 _ 33 56 Tryz.underlying77 hi0 hz0 hz1 hz2 rfl (by decide) v k xs hs hown p n c news hx hl (hc p rfl) h1 (by unfold maxLen; omega) (by omega) hbase (fun v' w' h1 h2 h3 => h v' w' h1 h2 (fun e => (h3.1 e).1))

theorem flatF_len {Q : List FG} (hk : ∀ q ∈ Q, IsH q.k) : (Q.flatMap FG.enc).length = Q.length * 33 := by
  induction Q with
  | nil => rfl
  | cons q Q ih =>
    rw [List.flatMap_cons, List.length_append, ih (fun x hx => hk x (by simp [hx])), encF_len (hk q (by simp)), List.length_cons]
    omega
theorem flatF_split {Q : List FG} (p : Nat) : Q.flatMap FG.enc = (Q.take p).flatMap FG.enc ++ (Q.drop p).flatMap FG.enc := by rw [← List.flatMap_append, List.take_append_drop]
theorem flatF_one {w : World} {F : Nat → Prop} {v : Value} {Q : List FG} (h : NL w F v Q) : ∀ u ∈ Q.flatMap FG.enc, u.oneCell' = true := fun u hu => by
  obtain ⟨q, hq, hu⟩ := List.mem_flatMap.1 hu
  rcases List.mem_cons.1 hu with rfl | hu
  · exact (h.str q hq).one
  · obtain ⟨z, _, rfl⟩ := List.mem_map.1 hu; rfl
/-- what stands ahead of a place, and what behind it, as it lies -/
theorem NL.ahead {w : World} {F : Nat → Prop} {a : Option Addr} {c : Nat} {Q : List FG} (h : NL w F (.slice a Q.length c) Q) (p : Nat) (hp : p ≤ Q.length) :
    ((Q.take p).flatMap FG.enc).length = p * 33 ∧ (a = none → p = 0 ∧ c = 0) ∧ ∀ ad, a = some ad → ∀ j u, ((Q.take p).flatMap FG.enc)[j]? = some u → w.cell? (ad.add j) = some u := by
  have hl : ((Q.take p).flatMap FG.enc).length = p * 33 := by rw [flatF_len (fun q hq => h.key q (List.mem_of_mem_take hq)), List.length_take]; congr 1; omega
  refine ⟨hl, fun e => ?_, fun ad e j u hu => ?_⟩
  · subst e
    rcases h.own.2 with ⟨e, h0⟩ | ⟨g, cap, cur, e, _⟩
    · injection e with _ _ e
      exact ⟨by omega, e⟩
    · injection e with e; cases e
  · subst e
    rcases h.own.2 with ⟨e, h0⟩ | ⟨g, cap, cur, e, _⟩
    · injection e with e; cases e
    · injection e with e
      have e := Option.some.inj e
      subst e
      have hj : j < ((Q.take p).flatMap FG.enc).length := (List.getElem?_eq_some_iff.1 hu).1
      exact h.own.cells (g := g) rfl j u (by rw [flatF_split p, List.getElem?_append_left hj]; exact hu)
theorem NL.behind {w : World} {F : Nat → Prop} {a : Option Addr} {c : Nat} {Q : List FG} (h : NL w F (.slice a Q.length c) Q) (p : Nat) (hp : p ≤ Q.length) :
    ((Q.drop p).flatMap FG.enc).length = (Q.length - p) * 33 ∧ (behindN a c p = none → Q.length - p = 0 ∧ c - p = 0) ∧ ∀ ad, behindN a c p = some ad → ∀ j u, ((Q.drop p).flatMap FG.enc)[j]? = some u → w.cell? (ad.add j) = some u := by
  have hl : ((Q.drop p).flatMap FG.enc).length = (Q.length - p) * 33 := by rw [flatF_len (fun q hq => h.key q (List.mem_of_mem_drop hq)), List.length_drop]
  have ht : ((Q.take p).flatMap FG.enc).length = p * 33 := (h.ahead p hp).1
  refine ⟨hl, fun e => ?_, fun ad e j u hu => ?_⟩
  · cases a with
    | none => have := (h.ahead Q.length (Nat.le_refl _)).2.1 rfl; omega
    | some ad => unfold behindN at e; split at e <;> simp at e
  · have hj : j < ((Q.drop p).flatMap FG.enc).length := (List.getElem?_eq_some_iff.1 hu).1
    rcases h.own.2 with ⟨e2, h0⟩ | ⟨g, cap, cur, e2, hb, hgg, hn, _⟩
    · omega
    · injection e2 with e2 _ e3
      subst e2
      subst e3
      unfold behindN at e
      rw [if_neg (by omega)] at e
      have e := Option.some.inj e
      subst e
      have := h.own.cells (g := g) rfl (p * 33 + j) u (by rw [flatF_split p, List.getElem?_append_right (by omega), ht, Nat.add_sub_cancel_left]; exact hu)
      rw [← this]
      congr 1
      unfold Addr.add
      split <;> split <;> simp_all
theorem builtN (a : Option Addr) (n c : Nat) (f : Nat → Nat) : Tryz.prog.built 105 [(0, .slice a n c), (1, .agg (bv (lst 32 f)).toArray)] = some (.slice a n c :: bv (lst 32 f)).toArray := by kernel_rfl
theorem lst_self' {x : List Nat} (h : IsH x) : lst 32 (fun i => x.getD i 0) = x := by
  unfold lst
  apply List.ext_getElem?
  intro i
  by_cases hi : i < 32
  · have hx : i < x.length := by rw [h.1]; exact hi
    rw [List.getElem?_map, List.getElem?_range hi, List.getElem?_eq_getElem hx]
    simp [List.getD, hx]
  · rw [List.getElem?_eq_none (by simp; omega), List.getElem?_eq_none (by rw [h.1]; omega)]
theorem builtN' (a : Option Addr) (n c : Nat) {x : List Nat} (h : IsH x) : Tryz.prog.built 105 [(0, .slice a n c), (1, .agg (hA x))] = some (.slice a n c :: bv x).toArray := by
  have := builtN a n c (fun i => x.getD i 0)
  rw [lst_self' h] at this
  exact this
theorem fillN (a : Option Addr) (n c : Nat) (f : Nat → Nat) : Instr.fill (fun i => some (i * 33, 33)) ((Array.range (1 * 33)).map ((Value.agg (nilS :: bv (List.replicate 32 0)).toArray).cells[· % (Value.agg (nilS :: bv (List.replicate 32 0)).toArray).cells.size]!)) [(0, .agg (.slice a n c :: bv (lst 32 f)).toArray)] = some (.slice a n c :: bv (lst 32 f)).toArray := by kernel_rfl
theorem r_buildN {ops : Array Oper} {o : Oper} {a : Act} {Q : Exit → Act → World → Prop} {w : World} {K : Act → World → Prop} {E : Prop} (y : Operand) (ho : o.op = .buildSlice 77 1 #[(0, y)]) (hw : Region.wanted o (yielded ops a.tmps) = true) (p : Option Addr) (n c : Nat) {x : List Nat} (hx : IsH x) (hy : a.eval y = .agg (.slice p n c :: bv x).toArray)
    (h : K (a.put o.dst (.slice (some ⟨w.heap.size, 0, none⟩) 1 1)) (w.alloc (.cells (.slice p n c :: bv x).toArray 105))) :
    if Region.wanted o (yielded ops a.tmps) = true then Oper.wp Tryz.prog o a w K Q else E := by
  rw [if_pos hw]
  obtain ⟨i0, hi0, hz0, hz1, hz2⟩ := info_parts infoNt
  refine wp_buildSlice 77 105 1 _ ho _ i0 _ Tryz.underlying77 hi0 hz0 (by rw [hz1]; decide) (by rw [hz1]; decide) ?_ h
  rw [hz1]
  simp only [List.map_toArray, List.map_cons, List.map_nil, hy]
  have := fillN p n c (fun i => x.getD i 0)
  rw [lst_self' hx] at this
  exact this
end Go.Proofs.YtlhllbggnpcoaaaGreatDoor

/-
  Forgeries gathered.
-/
namespace Go.Proofs.YtlhllbggnpcoaaaGreatDoor
open Go.RowKit Go.Sort Go.Maps

structure FAcc (w0 w : World) (v : Value) (Q : List FG) : Prop where
  below : Below w0.heap.size w0 w
  own : w.ownsRow w0.heap.size 73 33 v Q.length (Q.flatMap FG.enc)
  ok : ∀ q ∈ Q, FOk w w0.heap.size q
  sep : (Q.map FG.u).Pairwise Sep
theorem FAcc.nil {w0 w : World} (h : Below w0.heap.size w0 w) : FAcc w0 w (.slice none 0 0) [] := ⟨h, World.ownsRow_nil _ _ _ _, fun q hq => by simp at hq, List.Pairwise.nil⟩
theorem FAcc.turn {w0 w w' : World} {v : Value} {Q : List FG} {G : Nat → Prop} (h : FAcc w0 w v Q) (t : Turn G w w') (hG : ∀ i, G i → w0.heap.size ≤ i ∧ (i < w.heap.size → ∃ o, w.heap[i]? = some o ∧ ∀ cs e fz, o ≠ .cells cs e fz)) : FAcc w0 w' v Q := by
  refine ⟨h.below.trans (t.below (fun i q => (hG i q).1) h.below.size), own_turn h.own t (fun g hg q => ?_), fun q hq => (h.ok q hq).turn t (fun i q hi => ?_), h.sep⟩
  · obtain ⟨o, ho, hne⟩ := (hG g q).2 (h.own.lt g hg).2
    obtain ⟨cur, hc⟩ := own_block h.own hg
    rw [hc] at ho
    exact hne _ _ _ (Option.some.inj ho).symm
  · obtain ⟨o, ho, hne⟩ := (hG i q).2 hi
    exact ⟨o, ho, fun cs fz => hne cs 5 fz⟩
theorem FAcc.step {w0 w w' : World} {v : Value} {Q : List FG} (h : FAcc w0 w v Q) (hb : Below w.heap.size w w') : FAcc w0 w' v Q :=
  h.turn (Turn.of_below hb (F := fun _ => False)) (fun _ q => q.elim)
theorem frow_apart {w : World} {base size n : Nat} {v : Value} {xs : List Value} (h : w.ownsRow base 73 size v n xs) : ∀ i, v.ownBlock = some i → i < w.heap.size → ∃ o, w.heap[i]? = some o ∧ ∀ cs fz, o ≠ .cells cs 5 fz := fun i hi _ => by
  obtain ⟨cur, hc⟩ := own_block h hi
  exact ⟨_, hc, fun cs fz z => by injection z with _ z; exact absurd z (by decide)⟩
/-- one more -/
theorem FAcc.push {w0 wr w1 w3 : World} {v v1 v' : Value} {Q : List FG} {s k : List Nat} {o : Obj} (h : FAcc w0 wr v Q) (hb1 : Below wr.heap.size wr w1) (o1 : w1.ownsRow wr.heap.size 5 1 v1 s.length (bv s)) (ks : Bs s) (hk : IsH k)
    (own' : w3.ownsRow w0.heap.size 73 33 v' (Q.length + 1) (Q.flatMap FG.enc ++ (v1 :: bv k))) (gr : (w1.alloc o).grownBy w3 v.ownBlock) :
    FAcc w0 w3 v' (Q ++ [⟨v1, s, k⟩]) ∧ Turn (fun i => v.ownBlock = some i) wr w3 := by
  have h1 := h.step hb1
  have h2a := h1.step ((Below.refl _ _).alloc (Nat.le_refl _) o : Below w1.heap.size w1 (w1.alloc o))
  have t3 : Turn (fun i => v.ownBlock = some i) (w1.alloc o) w3 := Turn.of_grown gr (fun k e => e)
  have lo : ∀ i, v.ownBlock = some i → w0.heap.size ≤ i := fun i hi => (h.own.lt i hi).1
  have s1 : Str (w1.alloc o) (fun i => w0.heap.size ≤ i) v1 s := by
    refine ⟨?_, fun g hg => ?_, ks⟩
    · have := own_turn o1 (Turn.alloc w1 o (F := fun _ => False)) (fun _ _ q => q)
      exact ⟨this.1, this.2.imp id (fun ⟨g, cap, cur, e1, _, r⟩ => ⟨g, cap, cur, e1, Nat.zero_le _, r⟩)⟩
    · exact Nat.le_trans h.below.size (o1.lt g hg).1
  have hn : FOk (w1.alloc o) w0.heap.size ⟨v1, s, k⟩ := ⟨s1, hk⟩
  have ra := frow_apart h2a.own
  refine ⟨⟨h2a.below.trans (t3.below lo h2a.below.size), by simpa [FG.enc] using own', fun q hq => ?_, ?_⟩, ?_⟩
  · rcases List.mem_append.1 hq with hq | hq
    · exact (h2a.ok q hq).turn t3 ra
    · rw [List.mem_singleton] at hq
      subst hq
      exact hn.turn t3 ra
  · rw [List.map_append, List.pairwise_append]
    refine ⟨h.sep, List.pairwise_singleton _ _, fun u hu x hx g h1 h2 => ?_⟩
    obtain ⟨q, hq, rfl⟩ := List.mem_map.1 hu
    have l := ((h.ok q hq).str.own.lt g h1).2
    simp only [List.map_cons, List.map_nil, List.mem_singleton] at hx
    subst hx
    have := (o1.lt g h2).1
    omega
  · exact ((Turn.of_below hb1 (F := fun i => v.ownBlock = some i)).trans (Turn.alloc w1 o (F := fun i => v.ownBlock = some i)) (fun _ q => Or.inl q)).trans t3 (fun _ q => Or.inl q)

/-- WHAT IS GATHERED SO FAR: the strings whose keys have been met. -/
structure MetF (κ : List Nat → List Nat) (L : List (List Nat)) (left : Lit → Bool) (P : List (List Nat)) : Prop where
  mem : ∀ s, s ∈ P ↔ s ∈ L ∧ left (klit (κ s)) = false
  nod : P.Nodup
theorem MetF.next {κ : List Nat → List Nat} {L : List (List Nat)} (hL : Ris L) (hK : ∀ s ∈ L, IsH (κ s)) {left : Lit → Bool} {P : List (List Nat)} (h : MetF κ L left P) {k : List Nat} (hk : IsH k) (hl : left (klit k) = true) : MetF κ L (fun z => left z && !z.sameKey (klit k)) (P ++ grp κ L k) := by
  have same : ∀ s ∈ L, ((klit (κ s)).sameKey (klit k) = true ↔ κ s = k) := fun s hs => by
    rw [WideAt.sameKey_iff (klit_key hk)]
    exact ⟨fun e => klit_inj (hK s hs) hk e, fun e => by rw [e]⟩
  refine ⟨fun s => ?_, ?_⟩
  · rw [List.mem_append, h.mem, mem_grp]
    constructor
    · rintro (⟨h1, h2⟩ | ⟨h1, h2⟩)
      · exact ⟨h1, by rw [h2]; rfl⟩
      · exact ⟨h1, by rw [(same s h1).2 h2]; simp⟩
    · rintro ⟨h1, h2⟩
      by_cases e : κ s = k
      · exact Or.inr ⟨h1, e⟩
      · refine Or.inl ⟨h1, ?_⟩
        have : (klit (κ s)).sameKey (klit k) = false := by
          cases q : (klit (κ s)).sameKey (klit k) with
          | false => rfl
          | true => exact absurd ((same s h1).1 q) e
        rw [this] at h2
        simpa using h2
  · rw [List.nodup_append]
    refine ⟨h.nod, List.Pairwise.imp (R := lt) (S := fun x y => x ≠ y) (fun {x y} (q : lt x y) (z : x = y) => lt_irrefl y (by rw [z] at q; exact q)) (ris_grp hL k), fun p hp q hq z => ?_⟩
    subst z
    have h1 := ((h.mem p).1 hp).2
    rw [(mem_grp.1 hq).2, hl] at h1
    cases h1
theorem metf_start {κ : List Nat → List Nat} {L : List (List Nat)} {D : DataW Value} (hK : ∀ s ∈ L, IsH (κ s)) (h : ∀ k, IsH k → (Maps.has D (klit k) = true ↔ grp κ L k ≠ [])) : MetF κ L (Maps.has D) [] := by
  refine ⟨fun s => ⟨fun q => by simp at q, ?_⟩, List.nodup_nil⟩
  rintro ⟨h1, h2⟩
  have : Maps.has D (klit (κ s)) = true := (h _ (hK s h1)).2 (fun e => by have q : s ∈ grp κ L (κ s) := mem_grp.2 ⟨h1, rfl⟩; rw [e] at q; simp at q)
  rw [this] at h2
  cases h2
theorem MetF.done {κ : List Nat → List Nat} {L : List (List Nat)} (hL : Ris L) {left : Lit → Bool} {P P' : List (List Nat)} (h : MetF κ L left P) (hl : ∀ kl, left kl = false) (hp : P'.Perm P) (hs : P'.Pairwise (fun x y => ¬ lt y x)) : P' = L := by
  have nd : P'.Nodup := hp.nodup_iff.2 h.nod
  refine rise_eq lt_irrefl (fun _ _ _ => lt_trans) ?_ hL (fun p => ?_)
  · refine List.Pairwise.imp₂ (fun x y (h1 : ¬ lt y x) (h2 : x ≠ y) => ?_) hs nd
    rcases lt_tri x y with q | q | q
    · exact q
    · exact absurd q h2
    · exact absurd q h1
  · rw [hp.mem_iff, h.mem]
    exact ⟨fun q => q.1, fun q => ⟨q, hl _⟩⟩
theorem MetF.le {κ : List Nat → List Nat} {L : List (List Nat)} {left : Lit → Bool} {P : List (List Nat)} (h : MetF κ L left P) : P.length ≤ L.length := nodup_le h.nod (fun x hx => ((h.mem x).1 hx).1)
structure FOut (w : World) (B : Nat) (v : Value) (Q : List FG) : Prop where
  own : w.ownsRow B 73 33 v Q.length (Q.flatMap FG.enc)
  ok : ∀ q ∈ Q, FOk w B q
  sep : (Q.map FG.u).Pairwise Sep
theorem FOut.turn {w w' : World} {B : Nat} {v : Value} {Q : List FG} {G : Nat → Prop} (h : FOut w B v Q) (t : Turn G w w') (hG : ∀ i, G i → i < w.heap.size → i < B) : FOut w' B v Q :=
  ⟨own_turn h.own t (fun g hg q => by have := h.own.lt g hg; have := hG g q this.2; omega), fun q hq => ⟨(h.ok q hq).str.turn t (fun i hi hl q => by have := hG i q hl; omega), (h.ok q hq).key⟩, h.sep⟩
end Go.Proofs.YtlhllbggnpcoaaaGreatDoor
