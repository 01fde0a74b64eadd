/-
  Where a law over lists of lists stands; a list of lists appended to another.
-/
import Derived.Test.YtnknhjabebcmeaaFx
import Derived.Test.YtnknhjabebcmeaaApu
namespace Go.Proofs.Ytnknhjabebcmeaa
open Go.RowKit

theorem wpList_append_rows {w : World} {ops : Array Oper} {rest : List Oper} {o : Oper} {a : Act} {Q : Exit → Act → World → Prop} (hgd : o.guard = none) (s x : Operand)
    (ho : o.op = .call { callee := .builtin .append, args := #[s, x], argTypes := #[22, 22] }) (base : Nat) (v : Value) (k : Nat) (xs : List Value) (hs : a.eval s = v) (hown : w.ownsRow base 23 1 v k xs)
    (B : Nat) (y : Value) (n : Nat) (ys : List Value) (hx : a.eval x = y) (hy : w.ownsRow B 23 1 y n ys) (h1 : ∀ u ∈ ys, u.oneCell' = true) (hk : (k + n) * 24 ≤ 140737488355328) (hbase : base ≤ w.heap.size)
    (h : ∀ v' w', w'.ownsRow base 23 1 v' (k + n) (xs ++ ys) → w.grownBy w' v.ownBlock → (v' = .slice none 0 0 → v = .slice none 0 0) → wpList Try.prog ops Q rest (a.put o.dst v') w') : wpList Try.prog ops Q (o :: rest) a w := by
  obtain ⟨i0, hi0, hz0, hz1, hz2⟩ := info_parts infoB
  rcases hy.2 with ⟨rfl, h0⟩ | ⟨g, cap, cur, rfl, hB, hg, q1, q2, q3, q4⟩
  · subst h0
    have e : ys = [] := List.eq_nil_of_length_eq_zero (by have := hy.1; omega)
    subst e
    refine wpList_append_own_none hgd s x 22 ho base 23 i0 1 Try.underlying22 hi0 v k xs hs hown hx ?_
    refine h v w ?_ ⟨rfl, rfl, rfl, Nat.le_refl _, fun _ _ _ => rfl⟩ id
    simpa using hown
  · refine wpList_append_own _ hgd s x 22 ho base 23 i0 nilS 1 24 Try.underlying22 hi0 hz0 hz1 hz2 rfl (by decide) v k xs hs hown ⟨g, 0, none⟩ n cap ys hx (by have := hy.1; omega) ?_ h1 (by unfold maxLen; omega) hk hbase (fun v' w' h1 h2 h3 => h v' w' h1 h2 (fun e => (h3.1 e).1))
    exact hy.cells (g := g) rfl
theorem Gl.one {w : World} {B : Nat} {v : Value} {Us : List Value} {L : List (List Nat)} (h : Gl w B v Us L) : ∀ u ∈ Us, u.oneCell' = true := fun u hu => by
  obtain ⟨s, h1, _⟩ := h.stw u hu
  exact h1.one

/-- a list in a block of its own, lo ≤ block < hi -/
structure Iw (w : World) (lo hi : Nat) (v : Value) : Prop where
  stw : ∃ s, Stw w v s ∧ s.length ≤ 140737488351232
  lo : ∀ g, v.ownBlock = some g → lo ≤ g
  hi : ∀ g, v.ownBlock = some g → g < hi
theorem AnT.iw {w w' : World} {v : Value} {s : List Nat} (h : AnT w w' v s) : Iw w' w.heap.size w'.heap.size v := ⟨⟨s, h.stw, h.len⟩, fun g hg => (h.own.lt g hg).1, fun g hg => (h.own.lt g hg).2⟩
theorem Iw.turn {w w' : World} {lo hi : Nat} {v : Value} {F : Nat → Prop} (h : Iw w lo hi v) (k : Turn F w w') (hF : ∀ i, lo ≤ i → i < hi → ¬ F i) : Iw w' lo hi v := by
  obtain ⟨s, hs, hl⟩ := h.stw
  exact ⟨⟨s, hs.turn k (fun g hg => hF g (h.lo g hg) (h.hi g hg)), hl⟩, h.lo, h.hi⟩
theorem Iw.below {w w' : World} {lo hi : Nat} {v : Value} (h : Iw w lo hi v) (k : Below w.heap.size w w') : Iw w' lo hi v := h.turn (Turn.of_below (F := fun _ => False) k) (fun _ _ _ q => q)
/-- a list of lists, all blocks lo ≤ .. < hi -/
structure Gw (w : World) (lo hi : Nat) (v : Value) (Us : List Value) (L : List (List Nat)) : Prop where
  gl : Gl w lo v Us L
  hv : ∀ g, v.ownBlock = some g → g < hi
  hu : ∀ u ∈ Us, ∀ g, u.ownBlock = some g → g < hi
theorem Gl.gw {w : World} {lo : Nat} {v : Value} {Us : List Value} {L : List (List Nat)} (h : Gl w lo v Us L) : Gw w lo w.heap.size v Us L := ⟨h, fun g hg => (h.own.lt g hg).2, fun u hu g hg => (h.lo u hu g hg).2⟩
theorem Gw.turn {F : Nat → Prop} {w w' : World} {lo hi : Nat} {v : Value} {Us : List Value} {L : List (List Nat)} (h : Gw w lo hi v Us L) (t : Turn F w w') (hF : ∀ i, lo ≤ i → i < hi → ¬ F i) : Gw w' lo hi v Us L :=
  ⟨h.gl.turn t (fun g hg => hF g (h.gl.own.lt g hg).1 (h.hv g hg)) (fun u hu g hg => hF g (h.gl.lo u hu g hg).1 (h.hu u hu g hg)), h.hv, h.hu⟩
theorem Gw.below {w w' : World} {lo hi : Nat} {v : Value} {Us : List Value} {L : List (List Nat)} (h : Gw w lo hi v Us L) (k : Below w.heap.size w w') : Gw w' lo hi v Us L := h.turn (Turn.of_below (F := fun _ => False) k) (fun _ _ _ q => q)

/-- WHERE THE LAW STANDS: what is seen (T: lists of bytes; L: of lists; N: of numbers), what was handed out and lies apart (I, G); all of w is as it was. -/
structure Sn (w wk : World) (T : List (Value × List Nat)) (L : List (Value × List (List Nat))) (N : List (Value × List Nat)) (I : List (Nat × Nat × Value)) (G : List (Nat × Nat × Value × List Value × List (List Nat))) : Prop where
  below : Below w.heap.size w wk
  vs : ∀ p ∈ T, Vb wk p.1 p.2
  ls : ∀ p ∈ L, Lv wk p.1 p.2
  ns : ∀ p ∈ N, Iv wk p.1 p.2
  is : ∀ p ∈ I, Iw wk p.1 p.2.1 p.2.2 ∧ w.heap.size ≤ p.1 ∧ p.2.1 ≤ wk.heap.size
  gs : ∀ p ∈ G, Gw wk p.1 p.2.1 p.2.2.1 p.2.2.2.1 p.2.2.2.2 ∧ w.heap.size ≤ p.1 ∧ p.2.1 ≤ wk.heap.size
section
variable {w wk wz : World} {T : List (Value × List Nat)} {L : List (Value × List (List Nat))} {N : List (Value × List Nat)} {I : List (Nat × Nat × Value)} {G : List (Nat × Nat × Value × List Value × List (List Nat))}
theorem Sn.start {v : Value} {s : List Nat} (h : Vb w v s) : Sn w w [(v, s)] [] [] [] [] :=
  ⟨Below.refl _ _, fun p hp => by
    simp only [List.mem_cons, List.not_mem_nil, or_false] at hp
    rw [hp]
    exact h, (fun p hp => by cases hp), (fun p hp => by cases hp), (fun p hp => by cases hp), (fun p hp => by cases hp)⟩
theorem Sn.keep (h : Sn w wk T L N I G) (k : Below wk.heap.size wk wz) : Sn w wz T L N I G :=
  ⟨ch h.below k, fun p hp => (h.vs p hp).keep k, fun p hp => (h.ls p hp).keep k, fun p hp => (h.ns p hp).keep k, fun p hp => ⟨(h.is p hp).1.below k, (h.is p hp).2.1, Nat.le_trans (h.is p hp).2.2 k.size⟩, fun p hp => ⟨(h.gs p hp).1.below k, (h.gs p hp).2.1, Nat.le_trans (h.gs p hp).2.2 k.size⟩⟩
theorem Sn.add (h : Sn w wk T L N I G) {v : Value} {s : List Nat} (hv : Vb wk v s) : Sn w wk ((v, s) :: T) L N I G :=
  ⟨h.below, fun p hp => by
    rcases List.mem_cons.1 hp with e | e
    · rw [e]; exact hv
    · exact h.vs p e, h.ls, h.ns, h.is, h.gs⟩
/-- an answer that is both seen and apart -/
theorem Sn.ans (h : Sn w wk T L N I G) {v : Value} {s : List Nat} (hv : AnT wk wz v s) : Sn w wz ((v, s) :: T) L N ((wk.heap.size, wz.heap.size, v) :: I) G :=
  have k := (h.keep hv.below).add hv.vb
  ⟨k.below, k.vs, k.ls, k.ns, fun p hp => by
    rcases List.mem_cons.1 hp with e | e
    · rw [e]; exact ⟨hv.iw, h.below.size, Nat.le_refl _⟩
    · exact k.is p e, k.gs⟩
/-- a scan's answer -/
theorem Sn.scan (h : Sn w wk T L N I G) {v ve : Value} {Us : List Value} {M : List (List Nat)} {E : List Nat} (hb : Below wk.heap.size wk wz) (hg : Gl wz wk.heap.size v Us M) (hi : Gi wz wk.heap.size ve E) (hM : M.length ≤ 1099511627776) (hE : E.length ≤ 1099511627776) : Sn w wz T ((v, M) :: L) ((ve, E) :: N) I ((wk.heap.size, wz.heap.size, v, Us, M) :: G) :=
  have k := h.keep hb
  ⟨k.below, k.vs, fun p hp => by
    rcases List.mem_cons.1 hp with e | e
    · rw [e]; exact hg.lv hM
    · exact k.ls p e, fun p hp => by
    rcases List.mem_cons.1 hp with e | e
    · rw [e]; exact gi_iv hi hE
    · exact k.ns p e, k.is, fun p hp => by
    rcases List.mem_cons.1 hp with e | e
    · rw [e]; exact ⟨hg.gw, h.below.size, Nat.le_refl _⟩
    · exact k.gs p e⟩
theorem Sn.turn {g : Nat} (h : Sn w wk T L N I G) (t : Turn (fun i => i = g) wk wz) (hg : w.heap.size ≤ g) (hI : ∀ p ∈ I, g < p.1) (hG : ∀ p ∈ G, g < p.1) : Sn w wz [] [] [] I G :=
  ⟨h.below.trans (t.below (fun i q => by omega) h.below.size), (fun p hp => by cases hp), (fun p hp => by cases hp), (fun p hp => by cases hp), fun p hp => ⟨(h.is p hp).1.turn t (fun i h1 _ q => by have := hI p hp; omega), (h.is p hp).2.1, Nat.le_trans (h.is p hp).2.2 t.size⟩, fun p hp => ⟨(h.gs p hp).1.turn t (fun i h1 _ q => by have := hG p hp; omega), (h.gs p hp).2.1, Nat.le_trans (h.gs p hp).2.2 t.size⟩⟩
end
end Go.Proofs.Ytnknhjabebcmeaa
