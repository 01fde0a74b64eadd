/-
  Lists in intervals of blocks; Apart of three; Roomy, Whole, Turn of lists wherever they lie.
-/
import Derived.Test.YtnknhjabebcmeaaRmy
import Derived.Test.YtnknhjabebcmeaaVb
namespace Go.Proofs.Ytnknhjabebcmeaa
open Go.RowKit

theorem apart_any5 (w : World) (B : Nat) (al : Option Addr) (cl : Nat) (Us : List Value) (hl : w.ownsRow B 23 1 (.slice al Us.length cl) Us.length Us) (hs : ∀ u ∈ Us, ∃ s, Str w Any u s ∧ s.length ≤ 140737488351232) (sep : Us.Pairwise Sep) (hn : Us.length ≤ 274877906944) :
    Calls Try.prog 16 #[.slice al Us.length cl] w fun e w' => e = .returned (.bool true) ∧ Turn (Blk Us) w w' := by
  have h : ∀ r : Nat, ∃ s : List Nat, ∀ u, Us[r]? = some u → Str w Any u s ∧ s.length ≤ 140737488351232 := fun r => by
    cases e : Us[r]? with
    | none => exact ⟨[], fun u hu => by cases hu⟩
    | some u =>
      obtain ⟨s, hs⟩ := hs u (List.mem_of_getElem? e)
      exact ⟨s, fun u' hu' => by have := Option.some.inj hu'; subst this; exact hs⟩
  obtain ⟨M0, hM⟩ := Classical.axiomOfChoice h
  exact apart_any4 w B al cl Us M0 hl (fun r u hu => (hM r u hu).1) sep (fun r hr => (hM r _ (List.getElem?_eq_getElem hr)).2) hn
/-- a list in a block of its own, lo ≤ block < hi -/
structure In (w : World) (lo hi : Nat) (v : Value) : Prop where
  str : ∃ s, Str w Any v s ∧ s.length ≤ 140737488351232
  lo : ∀ g, v.ownBlock = some g → lo ≤ g
  hi : ∀ g, v.ownBlock = some g → g < hi
theorem In.sep {w : World} {l1 h1 l2 h2 : Nat} {u v : Value} (a : In w l1 h1 u) (b : In w l2 h2 v) (h : h1 ≤ l2 ∨ h2 ≤ l1) : Sep u v := fun g q1 q2 => by
  have := a.lo g q1
  have := a.hi g q1
  have := b.lo g q2
  have := b.hi g q2
  omega
theorem Str.below {w w' : World} {F : Nat → Prop} {v : Value} {s : List Nat} (h : Str w F v s) (k : Below w.heap.size w w') : Str w' F v s := h.turn (Turn.of_below (F := fun _ => False) k) (fun _ _ _ q => q)
theorem In.below {w w' : World} {lo hi : Nat} {v : Value} (h : In w lo hi v) (k : Below w.heap.size w w') : In w' lo hi v := by
  obtain ⟨s, hs, hl⟩ := h.str
  exact ⟨⟨s, hs.below k, hl⟩, h.lo, h.hi⟩
theorem In.turn {w w' : World} {lo hi : Nat} {v : Value} {F : Nat → Prop} (h : In w lo hi v) (k : Turn F w w') (hF : ∀ i, lo ≤ i → i < hi → ¬ F i) : In w' lo hi v := by
  obtain ⟨s, hs, hl⟩ := h.str
  exact ⟨⟨s, hs.turn' k (fun g hg => hF g (h.lo g hg) (h.hi g hg)), hl⟩, h.lo, h.hi⟩
theorem Ans.in_ {w w' : World} {v : Value} {s : List Nat} (h : Ans w w' v s) : In w' w.heap.size w'.heap.size v :=
  ⟨⟨s, h.str.mono (fun _ _ => trivial), h.len⟩, fun g hg => (h.own.lt g hg).1, fun g hg => (h.own.lt g hg).2⟩
theorem apart3 {W : World} {v1 v2 v3 : Value} {B q1 q2 q3 q4 q5 q6 : Nat} (i1 : In W q1 q2 v1) (i2 : In W q3 q4 v2) (i3 : In W q5 q6 v3) (h1 : q2 ≤ q3) (h2 : q4 ≤ q5) (h3 : q2 ≤ q5) (hb1 : B ≤ q1) (hb2 : B ≤ q3) (hb3 : B ≤ q5) :
    Calls Try.prog 16 #[.slice (some ⟨W.heap.size, 0, none⟩) 3 3] (W.alloc (.cells #[v1, v2, v3] 23)) fun e w' => e = .returned (.bool true) ∧ Turn (fun i => B ≤ i) W w' := by
  have k : Below W.heap.size W (W.alloc (.cells #[v1, v2, v3] 23)) := (Below.refl _ _).alloc (Nat.le_refl _) _
  have j1 := i1.below k
  have j2 := i2.below k
  have j3 := i3.below k
  refine (apart_any5 _ W.heap.size _ 3 [v1, v2, v3] (World.ownsRow_lit (base := W.heap.size) (e := 23) (size := 1) W #[v1, v2, v3] 3 (Nat.le_refl _) (by decide) rfl) (fun v hv => ?_) ?_ (by simp)).mono ?_
  · simp only [List.mem_cons, List.not_mem_nil, or_false] at hv
    rcases hv with rfl | rfl | rfl
    · exact j1.str
    · exact j2.str
    · exact j3.str
  · simp only [List.pairwise_cons, List.mem_cons, List.not_mem_nil, or_false, forall_eq_or_imp, forall_eq, List.Pairwise.nil, and_true, false_implies, implies_true]
    exact ⟨⟨j1.sep j2 (Or.inl h1), j1.sep j3 (Or.inl h3)⟩, j2.sep j3 (Or.inl h2)⟩
  · rintro e w' ⟨rfl, t3⟩
    refine ⟨rfl, (Turn.of_below k).trans t3 ?_⟩
    rintro i ⟨v, hv, hg⟩
    left
    simp only [List.mem_cons, List.not_mem_nil, or_false] at hv
    rcases hv with rfl | rfl | rfl
    · have := i1.lo i hg
      omega
    · have := i2.lo i hg
      omega
    · have := i3.lo i hg
      omega
theorem Str.vb {w : World} {F : Nat → Prop} {v : Value} {s : List Nat} (h : Str w F v s) (hl : s.length ≤ 140737488351232) : Vb w v s := by
  rcases h.own.2 with ⟨rfl, h0⟩ | ⟨g, cap, cur, rfl, _, _, h1, _⟩
  · exact ⟨none, 0, 0, 0, by rw [h0], ⟨fun k => by omega, fun i hi => by omega, fun i hi => by omega, by omega⟩, by omega, fun _ => rfl, hl⟩
  · obtain ⟨a, g', c, e, hc, hv, _⟩ := h.view
    injection e with e1 _ e3
    subst e3
    subst e1
    exact ⟨_, g', 0, _, rfl, hv, hc, (fun z => by cases z), hl⟩
/-- Roomy's list r of s, in the block g -/
structure Room (w : World) (g cap : Nat) (s : List Nat) : Prop where
  str : Str w (fun i => i = g) (.slice (some ⟨g, 0, none⟩) (s ++ mks).length cap) (s ++ mks)
theorem Room.vb {w : World} {g cap : Nat} {s : List Nat} (h : Room w g cap s) (hl : s.length ≤ 140737488351232) : Vb w (.slice (some ⟨g, 0, none⟩) s.length cap) s := (str_pre h.str).vb hl
theorem Room.below {w w' : World} {g cap : Nat} {s : List Nat} (h : Room w g cap s) (k : Below w.heap.size w w') : Room w' g cap s := ⟨h.str.below k⟩
theorem Room.lt {w : World} {g cap : Nat} {s : List Nat} (h : Room w g cap s) : g < w.heap.size := (h.str.own.lt g rfl).2
theorem roomy_vb {w : World} {v : Value} {s : List Nat} (h : Vb w v s) :
    Calls Try.prog 12 #[v] w fun e w' => ∃ g cap, e = .returned (.slice (some ⟨g, 0, none⟩) s.length cap) ∧ Room w' g cap s ∧ w.heap.size ≤ g ∧ Below w.heap.size w w' := by
  obtain ⟨a, b, off, c, rfl, hv, hc, hnil, hl⟩ := h
  refine (roomy_any4 w a b off c s hv hnil hl).mono ?_
  rintro e w' ⟨g, cap, rfl, h1, h2, h3⟩
  exact ⟨g, cap, rfl, ⟨h1⟩, h2, h3⟩
theorem whole_vb {w : World} {v : Value} {g cap : Nat} {s : List Nat} (hr : Room w g cap s) (h : Vb w v s) :
    Calls Try.prog 14 #[.slice (some ⟨g, 0, none⟩) s.length cap, v] w fun e w' => e = .returned (.bool true) ∧ Below w.heap.size w w' := by
  obtain ⟨a, b, off, c, rfl, hv, hc, hnil, hl⟩ := h
  refine (whole_any4 w _ g cap s hr.str a b off c hv).mono ?_
  rintro e w' ⟨rfl, q, rfl⟩
  exact ⟨rfl, below_drewN (Below.refl _ _) q⟩
theorem turn_vb {w : World} {g cap : Nat} {s : List Nat} (hr : Room w g cap s) (hl : s.length ≤ 140737488351232) :
    Calls Try.prog 15 #[.slice (some ⟨g, 0, none⟩) s.length cap] w fun e w' => e = .returned (.tuple #[]) ∧ Vb w' (.slice (some ⟨g, 0, none⟩) s.length cap) (tw s) ∧ Turn (fun i => i = g) w w' := by
  refine (turn_any4 w _ g cap s (str_pre hr.str)).mono ?_
  rintro e w' ⟨rfl, h1, h2⟩
  refine ⟨rfl, ?_, h2⟩
  have := h1.vb (by rw [tw_len]; exact hl)
  exact this
/-- WHERE A LAW STANDS: what is seen (T), what was handed out and lies apart (I); all of w is as it was. -/
structure Now (w wk : World) (T : List (Value × List Nat)) (I : List (Nat × Nat × Value)) : Prop where
  below : Below w.heap.size w wk
  vs : ∀ p ∈ T, Vb wk p.1 p.2
  is : ∀ p ∈ I, In wk p.1 p.2.1 p.2.2 ∧ w.heap.size ≤ p.1 ∧ p.2.1 ≤ wk.heap.size
theorem Now.start {w : World} {v : Value} {s : List Nat} (h : Vb w v s) : Now w w [(v, s)] [] :=
  ⟨Below.refl _ _, fun p hp => by
    simp only [List.mem_cons, List.not_mem_nil, or_false] at hp
    rw [hp]
    exact h, fun p hp => by cases hp⟩
theorem Now.keep {w wk wz : World} {T : List (Value × List Nat)} {I : List (Nat × Nat × Value)} (h : Now w wk T I) (k : Below wk.heap.size wk wz) : Now w wz T I :=
  ⟨ch h.below k, fun p hp => (h.vs p hp).keep k, fun p hp => ⟨(h.is p hp).1.below k, (h.is p hp).2.1, Nat.le_trans (h.is p hp).2.2 k.size⟩⟩
theorem Now.add {w wk : World} {T : List (Value × List Nat)} {I : List (Nat × Nat × Value)} {v : Value} {s : List Nat} (h : Now w wk T I) (hv : Vb wk v s) : Now w wk ((v, s) :: T) I :=
  ⟨h.below, fun p hp => by
    rcases List.mem_cons.1 hp with e | e
    · rw [e]; exact hv
    · exact h.vs p e, h.is⟩
/-- an answer that is both seen and apart -/
theorem Now.ans {w wk wz : World} {T : List (Value × List Nat)} {I : List (Nat × Nat × Value)} {v : Value} {s : List Nat} (h : Now w wk T I) (hv : Ans wk wz v s) : Now w wz ((v, s) :: T) ((wk.heap.size, wz.heap.size, v) :: I) :=
  have k := h.keep hv.below
  ⟨k.below, (k.add hv.vb).vs, fun p hp => by
    rcases List.mem_cons.1 hp with e | e
    · rw [e]; exact ⟨hv.in_, h.below.size, Nat.le_refl _⟩
    · exact k.is p e⟩
theorem Now.turn {w wk wz : World} {T : List (Value × List Nat)} {I : List (Nat × Nat × Value)} {g : Nat} (h : Now w wk T I) (t : Turn (fun i => i = g) wk wz) (hg : w.heap.size ≤ g) (hI : ∀ p ∈ I, g < p.1) : Now w wz [] I :=
  ⟨h.below.trans (t.below (fun i q => by omega) h.below.size), (fun p hp => by cases hp), fun p hp => ⟨(h.is p hp).1.turn t (fun i h1 _ q => by have := hI p hp; omega), (h.is p hp).2.1, Nat.le_trans (h.is p hp).2.2 t.size⟩⟩
end Go.Proofs.Ytnknhjabebcmeaa
