import Derived.Test.YtlhllbggnpcoaaaGreatDoorYl4
import Derived.Test.YtlhllbggnpcoaaaGreatDoorFso
/-
  Operations of the reference's lists; bytes appended, and where they lie; two new strings.
-/
namespace Go.Proofs.YtlhllbggnpcoaaaGreatDoor
open Go.RowKit Go.Sort Go.Maps

section
variable {ops : Array Oper} {S : World → Prop} {o : Oper} {a : Act}
theorem y_indexN (hw : Region.wanted o (yielded ops a.tmps) = true) (x i : Operand) (ho : o.op = .indexAddr 77 x i) (g n c j : Nat) (hx : a.eval x = .slice (some ⟨g, 0, none⟩) n c) (hi : a.eval i = .int .i64 j) (hj : j < n) : YieldsIf Tryz.prog ops S o (.pointer (some ⟨g, j * 33, none⟩)) a :=
  .inl ⟨hw, fun w _ => by
    have q : (j : Int) < (n : Int) := by omega
    unfold execOp
    simp only [ho, hx, hi]
    go_simp⟩
theorem y_fieldN (hw : Region.wanted o (yielded ops a.tmps) = true) (x : Operand) (f : Nat) (ho : o.op = .fieldAddr 105 x f) (g p : Nat) (hx : a.eval x = .pointer (some ⟨g, p, none⟩)) (hf : f < 2) : YieldsIf Tryz.prog ops S o (.pointer (some ⟨g, p + f, none⟩)) a :=
  .inl ⟨hw, fun w _ => by
    unfold execOp
    simp only [ho, hx]
    rcases (by omega : f = 0 ∨ f = 1) with rfl | rfl
    · go_simp
    · go_simp⟩
theorem y_indexG (hw : Region.wanted o (yielded ops a.tmps) = true) (x i : Operand) (ho : o.op = .indexAddr 37 x i) (g n c j : Nat) (hx : a.eval x = .slice (some ⟨g, 0, none⟩) n c) (hi : a.eval i = .int .i64 j) (hj : j < n) : YieldsIf Tryz.prog ops S o (.pointer (some ⟨g, j * 33, none⟩)) a :=
  .inl ⟨hw, fun w _ => by
    have q : (j : Int) < (n : Int) := by omega
    unfold execOp
    simp only [ho, hx, hi]
    go_simp⟩
theorem y_neqHr (hw : Region.wanted o (yielded ops a.tmps) = true) (x y : Operand) (ho : o.op = .binOp .neq 31 x y 31) (u v : Array Value) (hx : a.eval x = .agg u) (hy : a.eval y = .agg v) (r : Bool) (he : ∀ w0 : World, (Op.equalIn 10000 31 (.agg u) (.agg v)).run Tryz.prog w0 = .ok r w0) : YieldsIf Tryz.prog ops S o (.bool (!r)) a :=
  .inl ⟨hw, fun w _ => by
    have e := he w
    unfold execOp
    simp only [ho, hx, hy]
    go_simp⟩
theorem y_not (hw : Region.wanted o (yielded ops a.tmps) = true) (x : Operand) (ho : o.op = .unOp .not 4 x) (b : Bool) (hx : a.eval x = .bool b) : YieldsIf Tryz.prog ops S o (.bool (!b)) a :=
  .inl ⟨hw, fun w _ => by
    unfold execOp
    simp only [ho, hx]
    go_simp⟩
theorem y_eqlB (hw : Region.wanted o (yielded ops a.tmps) = true) (x y : Operand) (ho : o.op = .binOp .eql 4 x y 4) (b : Bool) (hx : a.eval x = .bool b) (hy : a.eval y = .bool b) : YieldsIf Tryz.prog ops S o (.bool true) a :=
  .inl ⟨hw, fun w _ => by
    unfold execOp
    simp only [ho, hx, hy]
    go_simp⟩
theorem y_loadN (hw : Region.wanted o (yielded ops a.tmps) = true) (x : Operand) (ho : o.op = .load 77 x) (g p : Nat) (hx : a.eval x = .pointer (some ⟨g, p, none⟩)) (v : Value) (hS : ∀ w, S w → w.cell? ⟨g, p, none⟩ = some v) : YieldsIf Tryz.prog ops S o v a :=
  .inl ⟨hw, fun w hs => by
    have c := hS w hs
    unfold execOp
    simp only [ho, hx]
    go_simp⟩
/-- bytes appended, as one step of a region that draws its order, and where they lie -/
theorem step_append_bytes_at {w : World} {K : Act → World → Prop} {Q : Exit → Act → World → Prop} {E : Prop} (hgd : o.guard = none) (s x : Operand)
    (ho : o.op = .call { callee := .builtin .append, args := #[s, x], argTypes := #[26, 26] }) (base : Nat) (v : Value) (k : Nat) (xs : List Value) (hs : a.eval s = v) (hown : w.ownsRow base 5 1 v k xs)
    (sa : Option Addr) (b off c : Nat) (t : List Nat) (hx : a.eval x = .slice sa t.length c) (hv : Vw w sa b off t) (hnil : sa = none → c = 0) (hk : k + t.length ≤ 140737488355328) (hbase : base ≤ w.heap.size)
    (h : ∀ v' w', w'.ownsRow base 5 1 v' (k + t.length) (xs ++ bv t) → w.grownBy w' v.ownBlock → (v'.ownBlock = v.ownBlock ∨ v'.ownBlock = some w.heap.size) → K (a.put o.dst v') w') : if Region.wanted o (yielded ops a.tmps) = true then Oper.wp Tryz.prog o a w K Q else E := by
  have hw : Region.wanted o (yielded ops a.tmps) = true := by simp [Region.wanted, hgd]
  rw [if_pos hw]
  obtain ⟨i0, hi0, hz0, hz1, hz2⟩ := info_parts Tryz.info5
  cases sa with
  | none =>
    have hn : t.length = 0 := by
      rcases Nat.eq_zero_or_pos t.length with e | e
      · exact e
      · cases hv.at_ e
    have ht : t = [] := List.length_eq_zero_iff.1 hn
    subst ht
    obtain rfl := hnil rfl
    have hrun := run_append_owned_none (P := Tryz.prog) (w := w) base 26 o.type 5 i0 1 Tryz.underlying26 hi0 v k xs hown
    unfold Oper.wp
    simp [execOp, ho, resolve, invoke, builtin, hs, hx, hrun, Result.andThen]
    refine h v w ?_ ⟨rfl, rfl, rfl, Nat.le_refl _, fun _ _ _ => rfl⟩ (Or.inl rfl)
    simpa [bv] using hown
  | some p =>
    obtain ⟨v', w', hrun, r1, r2, _, r4⟩ := run_append_own_at (P := Tryz.prog) w base 26 o.type 5 i0 (.int .u8 0) 1 1 Tryz.underlying26 hi0 hz0 hz1 hz2 rfl (by decide) v k xs hown p t.length c (bv t) (by simp [bv]) (by
      intro j u hu
      have hj : j < t.length := by
        rcases Nat.lt_or_ge j t.length with q | q
        · exact q
        · rw [List.getElem?_eq_none (by rw [bv_len]; exact q)] at hu; cases hu
      rw [bv_at hj] at hu
      have hu := Option.some.inj hu
      subst hu
      have hp : p = ⟨b, off, none⟩ := Option.some.inj (hv.at_ (by omega))
      subst hp
      rw [Go.WideShapes.add_plain]
      exact hv.cell j hj) (fun u hu => by obtain ⟨z, _, rfl⟩ := List.mem_map.1 hu; rfl) (by unfold maxLen; omega) (by omega) hbase
    unfold Oper.wp
    simp [execOp, ho, resolve, invoke, builtin, hs, hx, hrun, Result.andThen]
    exact h v' w' r1 r2 r4
end

/-- TWO NEW STRINGS, each in a row of its own -/
structure TwoRows (wr W : World) (v1 : Value) (n1 : Nat) (xs1 : List Value) (v2 : Value) (n2 : Nat) (xs2 : List Value) : Prop where
  below : Below wr.heap.size wr W
  o1 : W.ownsRow wr.heap.size 5 1 v1 n1 xs1
  o2 : W.ownsRow wr.heap.size 5 1 v2 n2 xs2
  sep : Sep v1 v2
section
variable {wr W W' : World} {v1 v2 v' : Value} {n1 n2 n' : Nat} {xs1 xs2 xs' : List Value}
theorem TwoRows.start (h : Below wr.heap.size wr W) : TwoRows wr W (.slice none 0 0) 0 [] (.slice none 0 0) 0 [] := ⟨h, World.ownsRow_nil _ _ _ _, World.ownsRow_nil _ _ _ _, fun g hg => by simp [Value.ownBlock] at hg⟩
theorem TwoRows.swap (h : TwoRows wr W v1 n1 xs1 v2 n2 xs2) : TwoRows wr W v2 n2 xs2 v1 n1 xs1 := ⟨h.below, h.o2, h.o1, h.sep.symm⟩
theorem TwoRows.lay (h : TwoRows wr W (.slice none 0 0) 0 [] v2 n2 xs2) : TwoRows wr (W.alloc (.cells #[] 5)) (.slice (some ⟨W.heap.size, 0, none⟩) 0 0) 0 [] v2 n2 xs2 := by
  have own0 := World.ownsRow_lit (base := wr.heap.size) (e := 5) (size := 1) W #[] 0 h.below.size (by decide) rfl
  refine ⟨h.below.alloc h.below.size _, own0, h.o2.alloc _, fun g h1 h2 => ?_⟩
  have e : W.heap.size = g := Option.some.inj h1
  have := (h.o2.lt g h2).2
  omega
theorem TwoRows.grow (h : TwoRows wr W v1 n1 xs1 v2 n2 xs2) (ho : W'.ownsRow wr.heap.size 5 1 v' n' xs') (gr : W.grownBy W' v1.ownBlock) (ha : v'.ownBlock = v1.ownBlock ∨ v'.ownBlock = some W.heap.size) : TwoRows wr W' v' n' xs' v2 n2 xs2 := by
  have t : Turn (fun i => v1.ownBlock = some i) W W' := Turn.of_grown gr (fun k e => e)
  refine ⟨h.below.trans (grown_below gr h.o1 (Nat.le_refl _) h.below.size), ho, own_turn h.o2 t (fun g hg q => h.sep g q hg), fun g h1 h2 => ?_⟩
  rcases ha with e | e
  · rw [e] at h1
    exact h.sep g h1 h2
  · rw [e] at h1
    have e := Option.some.inj h1
    have := (h.o2.lt g h2).2
    omega
end
/-- one more pair -/
theorem PAcc.push2 {w0 wr w2 w3 : World} {v v1 v2 v' : Value} {Q : List PR} {a b : List Nat} {o : Obj} (h : PAcc w0 wr v Q) (tr : TwoRows wr w2 v1 a.length (bv a) v2 b.length (bv b)) (ka : Bs a) (kb : Bs b)
    (own' : w3.ownsRow w0.heap.size 94 2 v' (Q.length + 1) (Q.flatMap PR.enc ++ [v1, v2])) (gr : (w2.alloc o).grownBy w3 v.ownBlock) :
    PAcc w0 w3 v' (Q ++ [⟨v1, a, v2, b⟩]) ∧ Turn (fun i => v.ownBlock = some i) wr w3 := by
  have h2 := h.step tr.below
  have h2a := h2.step ((Below.refl _ _).alloc (Nat.le_refl _) o : Below w2.heap.size w2 (w2.alloc o))
  have t3 : Turn (fun i => v.ownBlock = some i) (w2.alloc o) w3 := Turn.of_grown gr (fun k e => e)
  have lo : ∀ i, v.ownBlock = some i → w0.heap.size ≤ i := fun i hi => (h.own.lt i hi).1
  have st : ∀ (u : Value) (s : List Nat), w2.ownsRow wr.heap.size 5 1 u s.length (bv s) → Bs s → Str (w2.alloc o) (fun i => w0.heap.size ≤ i) u s := fun u s ou ks => by
    refine ⟨?_, fun g hg => Nat.le_trans h.below.size (ou.lt g hg).1, ks⟩
    exact own_base (own_turn ou (Turn.alloc w2 o (F := fun _ => False)) (fun _ _ q => q))
  have hn : POk (w2.alloc o) w0.heap.size ⟨v1, a, v2, b⟩ := ⟨st v1 a tr.o1 ka, st v2 b tr.o2 kb⟩
  have ra := row_apart h2a.own
  refine ⟨⟨h2a.below.trans (t3.below lo h2a.below.size), by simpa [PR.enc] using own', fun q hq => ?_, ?_⟩, ?_⟩
  · rcases List.mem_append.1 hq with hq | hq
    · exact (h2a.ok q hq).turn t3 ra
    · rw [List.mem_singleton] at hq
      subst hq
      exact hn.turn t3 ra
  · have old : ∀ u ∈ Q.flatMap PR.enc, ∀ g, u.ownBlock = some g → g < wr.heap.size := fun u hu g hg => by
      obtain ⟨q, hq, hu⟩ := List.mem_flatMap.1 hu
      simp only [PR.enc, List.mem_cons, List.not_mem_nil, or_false] at hu
      rcases hu with rfl | rfl
      · exact ((h.ok q hq).sa.own.lt g hg).2
      · exact ((h.ok q hq).sb.own.lt g hg).2
    have e : (Q ++ [(⟨v1, a, v2, b⟩ : PR)]).flatMap PR.enc = Q.flatMap PR.enc ++ [v1, v2] := by simp [PR.enc]
    rw [e, List.pairwise_append]
    refine ⟨h.sep, List.pairwise_cons.2 ⟨fun x hx => ?_, List.pairwise_singleton _ _⟩, fun u hu x hx g h1 h2 => ?_⟩
    · rw [List.mem_singleton] at hx
      subst hx
      exact tr.sep
    · have l := old u hu g h1
      simp only [List.mem_cons, List.not_mem_nil, or_false] at hx
      rcases hx with rfl | rfl
      · have := (tr.o1.lt g h2).1
        omega
      · have := (tr.o2.lt g h2).1
        omega
  · exact ((Turn.of_below tr.below (F := fun i => v.ownBlock = some i)).trans (Turn.alloc w2 o (F := fun i => v.ownBlock = some i)) (fun _ q => Or.inl q)).trans t3 (fun _ q => Or.inl q)
theorem NL.block {w : World} {F : Nat → Prop} {g n c : Nat} {Q : List FG} (h : NL w F (.slice (some ⟨g, 0, none⟩) n c) Q) : ∃ cur, w.heap[g]? = some (.cells cur 105 (0, 0)) := own_block h.own rfl
/-- one of them, by its place -/
theorem NL.ix {w : World} {F : Nat → Prop} {g n c : Nat} {Q : List FG} (h : NL w F (.slice (some ⟨g, 0, none⟩) n c) Q) (i : Nat) (q : FG) (hi : Q[i]? = some q) :
    (∃ p gp cp, w.cell? ⟨g, i * 33, none⟩ = some (.slice p q.s.length cp) ∧ Vw w p gp 0 q.s ∧ (p = none → cp = 0)) ∧ w.rangeAt g (i * 33 + 1) (bv q.k) ∧ q ∈ Q ∧ i < Q.length := by
  obtain ⟨hl, e⟩ := List.getElem?_eq_some_iff.1 hi
  obtain ⟨g', cap, ev, _, _, cells⟩ := h.at_ (by omega)
  injection ev with ev1 _ ev3
  injection ev1 with ev1
  injection ev1 with ev1
  subst ev1
  obtain ⟨⟨p, gp, cp, ce, vw⟩, rg⟩ := cells i hl
  rw [e] at ce vw rg
  refine ⟨⟨p, gp, cp, ce, vw, fun z => ?_⟩, rg, by rw [← e]; exact List.getElem_mem hl, hl⟩
  have h1 := h.str q (by rw [← e]; exact List.getElem_mem hl)
  have h2 := h.own.cells (g := g) rfl (i * 33 + 0) q.u ((flatF_get h.key i hl 0 (by decide)).trans (by rw [e]; rfl))
  rw [Nat.add_zero, show (⟨g, 0, none⟩ : Addr).add (i * 33) = ⟨g, i * 33, none⟩ by unfold Addr.add; split <;> simp_all, ce] at h2
  have h3 := Option.some.inj h2
  rcases h1.own.2 with ⟨e4, _⟩ | ⟨g4, cap4, cur4, e4, _⟩
  · rw [e4] at h3
    injection h3
  · rw [e4] at h3
    injection h3 with h3
    rw [z] at h3
    cases h3
end Go.Proofs.YtlhllbggnpcoaaaGreatDoor

/-
  The pairs of a list that rises, gathered by two loops.
-/
namespace Go.Proofs.YtlhllbggnpcoaaaGreatDoor

/-- gathered: the pairs whose first one stands ahead of the place i, or at it with the second one ahead of the place j -/
structure Part (κ : List Nat → List Nat) (L : List (List Nat)) (i j : Nat) (X : List (List Nat × List Nat)) : Prop where
  ris : X.Pairwise ltP
  mem : ∀ a b, (a, b) ∈ X ↔ (a, b) ∈ pairsL κ L ∧ ((∃ i', i' < i ∧ L[i']? = some a) ∨ (L[i]? = some a ∧ ∃ j', j' < j ∧ L[j']? = some b))

section
variable {κ : List Nat → List Nat} {L : List (List Nat)} {i j : Nat} {X : List (List Nat × List Nat)} {a b : List Nat}
theorem Part.start : Part κ L 0 0 [] := ⟨.nil, fun a b => by simp⟩
theorem ris_lt (hL : Ris L) (ha : L[i]? = some a) (hb : L[j]? = some b) (h : i < j) : lt a b := by
  obtain ⟨h1, rfl⟩ := List.getElem?_eq_some_iff.1 ha
  obtain ⟨h2, rfl⟩ := List.getElem?_eq_some_iff.1 hb
  exact List.pairwise_iff_getElem.1 hL i j h1 h2 h
theorem ris_ix (hL : Ris L) (ha : L[i]? = some a) (hb : L[j]? = some b) (h : lt a b) : i < j := by
  rcases Nat.lt_trichotomy i j with q | q | q
  · exact q
  · subst q
    rw [ha] at hb
    have := Option.some.inj hb
    subst this
    exact absurd h (lt_irrefl _)
  · exact absurd h (lt_asymm (ris_lt hL hb ha q))
theorem Part.begin (hL : Ris L) (h : Part κ L i 0 X) : Part κ L i (i + 1) X :=
  ⟨h.ris, fun a b => by
    rw [h.mem]
    constructor
    · rintro ⟨h1, h2 | ⟨_, j', hj, _⟩⟩
      · exact ⟨h1, Or.inl h2⟩
      · omega
    · rintro ⟨h1, h2 | ⟨e, j', hj, ej⟩⟩
      · exact ⟨h1, Or.inl h2⟩
      · have hl := ((mem_pairsL hL).1 h1).2.2.2.1
        have := ris_ix hL e ej hl
        omega⟩
theorem Part.skip (hL : Ris L) (h : Part κ L i j X) (ha : L[i]? = some a) (hb : L[j]? = some b) (hne : κ b ≠ κ a) : Part κ L i (j + 1) X :=
  ⟨h.ris, fun a' b' => by
    rw [h.mem]
    constructor
    · rintro ⟨h1, h2 | ⟨e, j', hj, ej⟩⟩
      · exact ⟨h1, Or.inl h2⟩
      · exact ⟨h1, Or.inr ⟨e, j', by omega, ej⟩⟩
    · rintro ⟨h1, h2 | ⟨e, j', hj, ej⟩⟩
      · exact ⟨h1, Or.inl h2⟩
      · by_cases q : j' = j
        · subst q
          rw [ha] at e
          rw [hb] at ej
          have e1 := Option.some.inj e
          have e2 := Option.some.inj ej
          subst e1
          subst e2
          exact absurd ((mem_pairsL hL).1 h1).2.2.1.symm hne
        · exact ⟨h1, Or.inr ⟨e, j', by omega, ej⟩⟩⟩
theorem Part.add (hL : Ris L) (h : Part κ L i j X) (ha : L[i]? = some a) (hb : L[j]? = some b) (hij : i < j) (he : κ b = κ a) (hle : ∀ m c, m < i → L[m]? = some c → κ c ≠ κ a) : Part κ L i (j + 1) (X ++ [(a, b)]) := by
  have hin : (a, b) ∈ pairsL κ L := (mem_pairsL hL).2 ⟨List.mem_of_getElem? ha, List.mem_of_getElem? hb, he.symm, ris_lt hL ha hb hij, fun c hc e hl => by
    obtain ⟨m, hm, rfl⟩ := List.getElem_of_mem hc
    have em := List.getElem?_eq_getElem hm
    exact hle m _ (ris_ix hL em ha hl) em e⟩
  refine ⟨List.pairwise_append.2 ⟨h.ris, List.pairwise_singleton _ _, fun x hx y hy => ?_⟩, fun a' b' => ?_⟩
  · rw [List.mem_singleton] at hy
    subst hy
    obtain ⟨a', b'⟩ := x
    rcases ((h.mem a' b').1 hx).2 with ⟨i', hi, ei⟩ | ⟨e, j', hj, ej⟩
    · exact Or.inl (ris_lt hL ei ha hi)
    · rw [ha] at e
      have e := Option.some.inj e
      exact Or.inr ⟨e.symm, ris_lt hL ej hb hj⟩
  · rw [List.mem_append, List.mem_singleton, h.mem]
    constructor
    · rintro (⟨h1, h2 | ⟨e, j', hj, ej⟩⟩ | e)
      · exact ⟨h1, Or.inl h2⟩
      · exact ⟨h1, Or.inr ⟨e, j', by omega, ej⟩⟩
      · injection e with e1 e2
        subst e1
        subst e2
        exact ⟨hin, Or.inr ⟨ha, j, by omega, hb⟩⟩
    · rintro ⟨h1, h2 | ⟨e, j', hj, ej⟩⟩
      · exact Or.inl ⟨h1, Or.inl h2⟩
      · by_cases q : j' = j
        · subst q
          rw [ha] at e
          rw [hb] at ej
          exact Or.inr (by rw [Option.some.inj e, Option.some.inj ej])
        · exact Or.inl ⟨h1, Or.inr ⟨e, j', by omega, ej⟩⟩
theorem Part.next (hL : Ris L) (h : Part κ L i L.length X) : Part κ L (i + 1) 0 X :=
  ⟨h.ris, fun a b => by
    rw [h.mem]
    constructor
    · rintro ⟨h1, ⟨i', hi, ei⟩ | ⟨e, _⟩⟩
      · exact ⟨h1, Or.inl ⟨i', by omega, ei⟩⟩
      · exact ⟨h1, Or.inl ⟨i, by omega, e⟩⟩
    · rintro ⟨h1, ⟨i', hi, ei⟩ | ⟨_, j', hj, _⟩⟩
      · by_cases q : i' = i
        · subst q
          obtain ⟨m, hm, e⟩ := List.getElem_of_mem ((mem_pairsL hL).1 h1).2.1
          exact ⟨h1, Or.inr ⟨ei, m, hm, by rw [List.getElem?_eq_getElem hm, e]⟩⟩
        · exact ⟨h1, Or.inl ⟨i', by omega, ei⟩⟩
      · omega⟩
theorem Part.pass (hL : Ris L) (h : Part κ L i j X) (ha : L[i]? = some a) {m : Nat} {c : List Nat} (hm : m < i) (hc : L[m]? = some c) (he : κ c = κ a) : Part κ L (i + 1) 0 X := by
  have no : ∀ a' b', (a', b') ∈ pairsL κ L → L[i]? ≠ some a' := fun a' b' h1 e => by
    rw [ha] at e
    have e := Option.some.inj e
    subst e
    exact ((mem_pairsL hL).1 h1).2.2.2.2 c (List.mem_of_getElem? hc) he (ris_lt hL hc ha hm)
  refine ⟨h.ris, fun a' b' => ?_⟩
  rw [h.mem]
  constructor
  · rintro ⟨h1, ⟨i', hi, ei⟩ | ⟨e, _⟩⟩
    · exact ⟨h1, Or.inl ⟨i', by omega, ei⟩⟩
    · exact absurd e (no a' b' h1)
  · rintro ⟨h1, ⟨i', hi, ei⟩ | ⟨_, j', hj, _⟩⟩
    · by_cases q : i' = i
      · subst q; exact absurd ei (no a' b' h1)
      · exact ⟨h1, Or.inl ⟨i', by omega, ei⟩⟩
    · omega
theorem Part.done (hL : Ris L) (h : Part κ L L.length j X) : X = pairsL κ L := by
  refine rise_eq ltP_irrefl ltP_trans h.ris (ris_pairsL hL) (fun p => ?_)
  obtain ⟨a, b⟩ := p
  rw [h.mem]
  refine ⟨fun q => q.1, fun q => ⟨q, Or.inl ?_⟩⟩
  obtain ⟨m, hm, e⟩ := List.getElem_of_mem ((mem_pairsL hL).1 q).1
  exact ⟨m, hm, by rw [List.getElem?_eq_getElem hm, e]⟩
theorem pairsL_one (hL : Ris L) {a' : List Nat} (h1 : (a, b) ∈ pairsL κ L) (h2 : (a', b) ∈ pairsL κ L) : a = a' := by
  obtain ⟨x1, _, x3, _, x5⟩ := (mem_pairsL hL).1 h1
  obtain ⟨y1, _, y3, _, y5⟩ := (mem_pairsL hL).1 h2
  rcases lt_tri a a' with q | q | q
  · exact absurd q (y5 a x1 (x3.trans y3.symm))
  · exact q
  · exact absurd q (x5 a' y1 (y3.trans x3.symm))
theorem Part.le (hL : Ris L) (h : Part κ L i j X) : X.length ≤ L.length := by
  have nd : (X.map (·.2)).Nodup := by
    refine List.pairwise_map.2 (List.Pairwise.imp_of_mem (fun {x y} hx hy (q : ltP x y) (z : x.2 = y.2) => ?_) h.ris)
    have h1 := ((h.mem x.1 x.2).1 hx).1
    have h2 := ((h.mem y.1 y.2).1 hy).1
    rw [z] at h1
    have e : x = y := Prod.ext (pairsL_one hL h1 h2) z
    rw [e] at q
    exact ltP_irrefl y q
  have := nodup_le nd (l2 := L) (fun s hs => by
    obtain ⟨p, hp, rfl⟩ := List.mem_map.1 hs
    exact ((mem_pairsL hL).1 ((h.mem p.1 p.2).1 hp).1).2.1)
  simpa using this
end
end Go.Proofs.YtlhllbggnpcoaaaGreatDoor
