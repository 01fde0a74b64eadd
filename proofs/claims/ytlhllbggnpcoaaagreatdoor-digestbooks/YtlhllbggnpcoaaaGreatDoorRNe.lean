import Derived.Test.YtlhllbggnpcoaaaGreatDoorTld
/-
  The two books side by side, with blocks that neither of them touches.
-/
namespace Go.Proofs.YtlhllbggnpcoaaaGreatDoor
open Go.RowKit Go.Sort Go.Maps

theorem RB.lim {w : World} {B qb : Nat} {st : Bst} {G : Nat → Prop} (h : RB w B qb st G) : ∀ i, G i → B ≤ i ∧ i < w.heap.size := by
  obtain ⟨sa, sB, sc, ah, ch, ac, cc, af, cf, Qh, Qc, Qf, hk⟩ := h
  exact hk.lim
theorem RB.lt {w : World} {B qb : Nat} {st : Bst} {G : Nat → Prop} (h : RB w B qb st G) : B ≤ qb ∧ qb < w.heap.size := by
  obtain ⟨sa, sB, sc, ah, ch, ac, cc, af, cf, Qh, Qc, Qf, hk⟩ := h
  exact ⟨hk.base, hk.row.lt⟩

/-- BOTH BOOKS, and what they leave alone: E -/
structure DX (W0 w : World) (sb qb : Nat) (s1 s2 : Bst) (F G : Nat → Prop) (E : List (Nat × Obj)) : Prop where
  bk : Book w W0.heap.size sb s1 F
  rb : RB w W0.heap.size qb s2 G
  q : ¬ F qb
  g : ∀ i, G i → ¬ F i
  low : Below W0.heap.size W0 w
  e : ∀ p ∈ E, w.heap[p.1]? = some p.2 ∧ ¬ F p.1 ∧ ¬ G p.1 ∧ p.1 ≠ qb
section
variable {W0 w w' : World} {sb qb : Nat} {s1 s2 s' : Bst} {F G : Nat → Prop} {E : List (Nat × Obj)}
theorem DX.prog (h : DX W0 w sb qb s1 s2 F G E) (t : Turned w w' W0.heap.size sb s' F) : ∃ F', DX W0 w' sb qb s' s2 F' G E := by
  obtain ⟨F', h1, h2, hb⟩ := t.book
  have lf := h.bk.lim
  have lg := h.rb.lim
  have lq := h.rb.lt
  refine ⟨F', hb, h.rb.turn t.turn h.q h.g, fun z => ?_, fun i hi z => ?_, h.low.trans (t.turn.below (fun i q => (lf i q).1) h.low.size), fun p hp => ?_⟩
  · rcases h2 qb z with q | q
    · exact h.q q
    · omega
  · rcases h2 i z with q | q
    · exact h.g i hi q
    · have := lg i hi; omega
  · obtain ⟨e1, e2, e3, e4⟩ := h.e p hp
    have lp : p.1 < w.heap.size := (Array.getElem?_eq_some_iff.1 e1).1
    refine ⟨(t.turn.block p.1 lp e2).trans e1, fun z => ?_, e3, e4⟩
    rcases h2 p.1 z with q | q
    · exact e2 q
    · omega
theorem DX.ref (h : DX W0 w sb qb s1 s2 F G E) (t : RTurned w w' W0.heap.size qb s' G) : ∃ G', DX W0 w' sb qb s1 s' F G' E := by
  obtain ⟨G', h1, h2, hb⟩ := t.book
  have lf := h.bk.lim
  have lq := h.rb.lt
  refine ⟨G', h.bk.turn t.turn (fun i hi z => h.q (z ▸ hi)), hb, h.q, fun i hi z => ?_, h.low.trans (t.turn.below (fun i q => q ▸ lq.1) h.low.size), fun p hp => ?_⟩
  · rcases h2 i hi with q | q
    · exact h.g i q z
    · have := lf i z; omega
  · obtain ⟨e1, e2, e3, e4⟩ := h.e p hp
    have lp : p.1 < w.heap.size := (Array.getElem?_eq_some_iff.1 e1).1
    refine ⟨(t.turn.block p.1 lp e4).trans e1, e2, fun z => ?_, e4⟩
    rcases h2 p.1 z with q | q
    · exact e3 q
    · omega
theorem DX.below (h : DX W0 w sb qb s1 s2 F G E) (hb : Below w.heap.size w w') : DX W0 w' sb qb s1 s2 F G E :=
  ⟨h.bk.below hb, h.rb.below hb, h.q, h.g, h.low.trans (hb.mono h.low.size), fun p hp => by
    obtain ⟨e1, e⟩ := h.e p hp
    exact ⟨(hb.block p.1 (Array.getElem?_eq_some_iff.1 e1).1).trans e1, e⟩⟩
/-- a block that was made -/
theorem DX.more (h : DX W0 w sb qb s1 s2 F G E) (hb : Below w.heap.size w w') {g : Nat} {o : Obj} (hg : w.heap.size ≤ g) (ho : w'.heap[g]? = some o) : DX W0 w' sb qb s1 s2 F G ((g, o) :: E) := by
  have h' := h.below hb
  have lf := h.bk.lim
  have lg := h.rb.lim
  have lq := h.rb.lt
  refine { h' with e := fun p hp => ?_ }
  rcases List.mem_cons.1 hp with rfl | hp
  · exact ⟨ho, fun z => by have := (lf _ z).2; omega, fun z => by have := (lg _ z).2; omega, by show g ≠ qb; omega⟩
  · exact h'.e p hp
/-- one of those blocks is written -/
theorem DX.write {g : Nat} {o o' : Obj} (h : DX W0 w sb qb s1 s2 F G ((g, o) :: E)) (hg : W0.heap.size ≤ g) (hE : ∀ p ∈ E, p.1 ≠ g) (t : Turn (fun i => i = g) w w') (ho : w'.heap[g]? = some o') : DX W0 w' sb qb s1 s2 F G ((g, o') :: E) := by
  obtain ⟨_, e2, e3, e4⟩ := h.e (g, o) (by simp)
  refine ⟨h.bk.turn t (fun i hi z => e2 (z ▸ hi)), h.rb.turn t (fun z => e4 z.symm) (fun i hi z => e3 (z ▸ hi)), h.q, h.g, h.low.trans (t.below (fun i z => z ▸ hg) h.low.size), fun p hp => ?_⟩
  rcases List.mem_cons.1 hp with rfl | hp
  · exact ⟨ho, e2, e3, e4⟩
  · obtain ⟨x1, x⟩ := h.e p (by simp [hp])
    exact ⟨(t.block p.1 (Array.getElem?_eq_some_iff.1 x1).1 (hE p hp)).trans x1, x⟩
theorem DX.drop {E' : List (Nat × Obj)} (h : DX W0 w sb qb s1 s2 F G E) (hE : ∀ p ∈ E', p ∈ E) : DX W0 w sb qb s1 s2 F G E' := { h with e := fun p hp => h.e p (hE p hp) }
theorem DX.tk (h : DX W0 w sb qb s1 s2 F G E) : TK w qb F G := ⟨fun i q => (h.bk.lim i q).2, h.q, h.g, h.rb.lt.2, fun i q => (h.rb.lim i q).2⟩
theorem DX.told (h : DX W0 w sb qb s1 s2 F G E) (hb : Book w' W0.heap.size sb s1 F) (hq : RB w' W0.heap.size qb s2 G) (t : Turn F w w') : DX W0 w' sb qb s1 s2 F G E :=
  ⟨hb, hq, h.q, h.g, h.low.trans (t.below (fun i q => (h.bk.lim i q).1) h.low.size), fun p hp => by
    obtain ⟨e1, e2, e⟩ := h.e p hp
    exact ⟨(t.block p.1 (Array.getElem?_eq_some_iff.1 e1).1 e2).trans e1, e2, e⟩⟩
theorem DX.at_ (h : DX W0 w sb qb s1 s2 F G E) {g : Nat} {o : Obj} (hm : (g, o) ∈ E) : w.heap[g]? = some o := (h.e _ hm).1
theorem DX.off (h : DX W0 w sb qb s1 s2 F G E) {g : Nat} {o : Obj} (hm : (g, o) ∈ E) : ¬ F g := (h.e _ hm).2.1
end
/-- a string of its own, wherever its block is as it was -/
theorem str_at {w w' : World} {F : Nat → Prop} {g n cap : Nat} {s : List Nat} (h : Str w F (.slice (some ⟨g, 0, none⟩) n cap) s) (e : w'.heap[g]? = w.heap[g]?) : Str w' F (.slice (some ⟨g, 0, none⟩) n cap) s := by
  refine ⟨?_, h.foot, h.ok⟩
  obtain ⟨h1, h2⟩ := h.own
  refine ⟨h1, h2.imp id (fun ⟨g', cap', cur, e1, e2, e3, r⟩ => ⟨g', cap', cur, e1, e2, ?_, r⟩)⟩
  injection e1 with e1
  injection e1 with e1
  injection e1 with e1
  subst e1
  rw [e]
  exact e3
theorem str_obj {w : World} {F : Nat → Prop} {g n cap : Nat} {s : List Nat} (h : Str w F (.slice (some ⟨g, 0, none⟩) n cap) s) : ∃ o, w.heap[g]? = some o := by
  obtain ⟨cur, hc⟩ := own_block h.own (g := g) rfl
  exact ⟨_, hc⟩
/-- how much a book holds -/
structure Bd (st : Bst) (n : Nat) : Prop where
  h : st.LH.length ≤ n
  c : st.LC.length ≤ n
  f : st.LF.length ≤ n
  sh : ∀ s ∈ st.LH, s.length ≤ 140737488351232
  sc : ∀ s ∈ st.LC, s.length ≤ 140737488351232
  sf : ∀ s ∈ st.LF, s.length ≤ 140737488351232
theorem ins_le (s : List Nat) (L : List (List Nat)) : (ins s L).length ≤ L.length + 1 := by
  induction L with
  | nil => simp [ins]
  | cons x r ih =>
    rw [ins_cons]
    split
    · simp
    · split
      · simp
      · simp only [List.length_cons]; omega
theorem Bd.mono {st : Bst} {n m : Nat} (h : Bd st n) (hm : n ≤ m) : Bd st m := { h with h := Nat.le_trans h.h hm, c := Nat.le_trans h.c hm, f := Nat.le_trans h.f hm }
theorem Bd.small {st : Bst} {n : Nat} (h : Bd st n) (hn : n ≤ 1000) : Small st :=
  ⟨by have := h.h; omega, by have := h.c; omega, by have := h.f; omega, fun s hs => by have := h.sh s hs; omega, fun s hs => by have := h.sc s hs; omega, fun s hs => by have := h.sf s hs; omega⟩
theorem Bd.insH {st : Bst} {n : Nat} (h : Bd st n) {t : List Nat} (ht : t.length ≤ 140737488351232) : Bd { st with LH := ins t st.LH } (n + 1) :=
  ⟨by have := ins_le t st.LH; have := h.h; show (ins t st.LH).length ≤ _; omega, by have := h.c; show st.LC.length ≤ _; omega, by have := h.f; show st.LF.length ≤ _; omega, fun s hs => by
    rcases mem_ins.1 hs with rfl | q
    · exact ht
    · exact h.sh s q, h.sc, h.sf⟩
theorem Bd.insC {st : Bst} {n : Nat} (h : Bd st n) {t : List Nat} (ht : t.length ≤ 140737488351232) : Bd { st with LC := ins t st.LC } (n + 1) :=
  ⟨by have := h.h; show st.LH.length ≤ _; omega, by have := ins_le t st.LC; have := h.c; show (ins t st.LC).length ≤ _; omega, by have := h.f; show st.LF.length ≤ _; omega, h.sh, fun s hs => by
    rcases mem_ins.1 hs with rfl | q
    · exact ht
    · exact h.sc s q, h.sf⟩
theorem Bd.insF {st : Bst} {n : Nat} (h : Bd st n) {t : List Nat} (ht : t.length ≤ 140737488351232) : Bd { st with LF := ins t st.LF } (n + 1) :=
  ⟨by have := h.h; show st.LH.length ≤ _; omega, by have := h.c; show st.LC.length ≤ _; omega, by have := ins_le t st.LF; have := h.f; show (ins t st.LF).length ≤ _; omega, h.sh, h.sc, fun s hs => by
    rcases mem_ins.1 hs with rfl | q
    · exact ht
    · exact h.sf s q⟩
/-- an operation's cells -/
def opc (kind : Int) (a : Option Addr) (n c : Nat) (k : List Nat) : Array Value := (.int .i64 kind :: .slice a n c :: bv k).toArray
theorem opc_cells {w : World} {ob : Nat} {kind : Int} {a : Option Addr} {n c : Nat} {k : List Nat} (h : w.heap[ob]? = some (.cells (opc kind a n c k) 49 (0, 0))) : w.cell? ⟨ob, 0, none⟩ = some (.int .i64 kind) ∧ w.cell? ⟨ob, 1, none⟩ = some (.slice a n c) ∧ w.rangeAt ob 2 (bv k) := by
  have cc : ∀ j, w.cell? ⟨ob, j, none⟩ = (opc kind a n c k)[j]? := fun j => cell_of_row w ob j _ 49 (0, 0) h
  refine ⟨by rw [cc]; rfl, by rw [cc]; rfl, fun j u hu => ?_⟩
  rw [cc, Nat.add_comm 2 j]
  unfold opc
  rw [List.getElem?_toArray, List.getElem?_cons_succ, List.getElem?_cons_succ]
  exact hu
section
variable {ops : Array Oper} {S : World → Prop} {o : Oper} {a : Act}
theorem y_fieldO (hw : Region.wanted o (yielded ops a.tmps) = true) (x : Operand) (f : Nat) (ho : o.op = .fieldAddr 49 x f) (g p : Nat) (hx : a.eval x = .pointer (some ⟨g, p, none⟩)) (hf : f < 3) : YieldsIf Tryz.prog ops S o (.pointer (some ⟨g, p + f, none⟩)) a :=
  .inl ⟨hw, fun w _ => by
    unfold execOp
    simp only [ho, hx]
    rcases (by omega : f = 0 ∨ f = 1 ∨ f = 2) with rfl | rfl | rfl
    · go_simp
    · go_simp
    · go_simp⟩
end
end Go.Proofs.YtlhllbggnpcoaaaGreatDoor

/-
  cairnref04.New.
-/
namespace Go.Proofs.YtlhllbggnpcoaaaGreatDoor
open Go.RowKit Go.Sort Go.Maps

theorem rnew_bits (w : World) (n m : Int) (v : Value) (h : n < 8 ∨ 256 < n ∨ m < 8 ∨ 256 < m) : Calls Tryz.prog 17 #[.int .i64 n, .int .i64 m, v] w fun e w' => e = .returned (.tuple #[.pointer none, .int .i64 40]) ∧ w' = w := by
  by_cases h1 : n < 8
  · go_enter Tryz.func17, Tryz.ntmps17
    go_wp2_with fail
    go_ret2
    exact ⟨rfl, rfl⟩
  · by_cases h2 : 256 < n
    · go_enter Tryz.func17, Tryz.ntmps17
      go_wp2_with fail
      go_ret2
      exact ⟨rfl, rfl⟩
    · by_cases h3 : m < 8
      · go_enter Tryz.func17, Tryz.ntmps17
        go_wp2_with fail
        go_ret2
        exact ⟨rfl, rfl⟩
      · have h4 : 256 < m := by omega
        go_enter Tryz.func17, Tryz.ntmps17
        go_wp2_with fail
        go_ret2
        exact ⟨rfl, rfl⟩
theorem rnew_key (w : World) (n m : Nat) (a : Option Addr) (l c : Nat) (h1 : 8 ≤ n ∧ n ≤ 256) (h2 : 8 ≤ m ∧ m ≤ 256) (hl : l ≠ 32) : Calls Tryz.prog 17 #[.int .i64 n, .int .i64 m, .slice a l c] w fun e w' => e = .returned (.tuple #[.pointer none, .int .i64 41]) ∧ w' = w := by
  have a1 : ¬ (n : Int) < 8 := by omega
  have a2 : ¬ 256 < (n : Int) := by omega
  have a3 : ¬ (m : Int) < 8 := by omega
  have a4 : ¬ 256 < (m : Int) := by omega
  have a5 : ((l : Int) == 32) = false := by simp; omega
  go_enter Tryz.func17, Tryz.ntmps17
  go_wp2_with fail
  go_ret2
  exact ⟨rfl, rfl⟩

set_option maxRecDepth 100000 in
set_option maxHeartbeats 1600000 in
theorem rnew_ok (w : World) (n m : Nat) (a : Option Addr) (b off c : Nat) (s : List Nat) (hv : Vw w a b off s) (hnil : a = none → c = 0) (h1 : 8 ≤ n ∧ n ≤ 256) (h2 : 8 ≤ m ∧ m ≤ 256) (hl : s.length = 32) (B : Nat) (hB : B ≤ w.heap.size) :
    Calls Tryz.prog 17 #[.int .i64 n, .int .i64 m, .slice a 32 c] w fun e w' => ∃ qb G, e = .returned (.tuple #[.pointer (some ⟨qb, 0, none⟩), .int .i64 0]) ∧ Below w.heap.size w w' ∧ RB w' B qb ⟨n, m, gd s, [], [], []⟩ G ∧ w.heap.size ≤ qb ∧ ∀ i, G i → w.heap.size ≤ i := by
  have a1 : ¬ (n : Int) < 8 := by omega
  have a2 : ¬ 256 < (n : Int) := by omega
  have a3 : ¬ (m : Int) < 8 := by omega
  have a4 : ¬ 256 < (m : Int) := by omega
  have own0 := World.ownsRow_lit (base := w.heap.size) (e := 5) (size := 1) w #[] 0 (Nat.le_refl _) (by decide) rfl
  have v0 : Vw (w.alloc (.cells #[] 5)) a b off s := hv.below ((Below.refl _ _).alloc (Nat.le_refl _) _)
  have v0' : View (w.alloc (.cells #[] 5)) a b off 32 (fun i => ((gd s i : Nat) : Int)) := by
    have := v0
    unfold Vw at this
    rw [hl] at this
    exact this
  have HV : Hid (View (w.alloc (.cells #[] 5)) a b off 32 (fun i => ((gd s i : Nat) : Int)) ∧ Bs s ∧ s.length = 32 ∧ (8 ≤ n ∧ n ≤ 256) ∧ (8 ≤ m ∧ m ≤ 256) ∧ B ≤ w.heap.size ∧ (w.alloc (.cells #[] 5)).ownsRow w.heap.size 5 1 (.slice (some ⟨w.heap.size, 0, none⟩) 0 0) 0 []) := ⟨v0', vw_ok hv, hl, h1, h2, hB, own0⟩
  clear hv v0 v0' own0 h1 h2 hl hB
  go_enter Tryz.func17, Tryz.ntmps17
  go_wp2_with (at_builtin; refine wpList_append_bytes (by rfl) (.tmp 27) (.tmp 28) (by rfl) w.heap.size _ 0 [] (by rfl) HV.out.2.2.2.2.2.2 a b off 32 c _ (by rfl) HV.out.1 hnil (by decide) (by simp) ?_; intro v1 w1 own1 gr1 nn1; rw [Nat.zero_add] at own1; obtain ⟨g, cap, e1, hg, hlt⟩ := own1.form (by decide); subst e1)
  have b1 : Below w.heap.size w w1 := ((Below.refl _ _).alloc (Nat.le_refl _) _).trans (grown_below gr1 HV.out.2.2.2.2.2.2 (Nat.le_refl _) (by simp))
  have own1' : w1.ownsRow w.heap.size 5 1 (.slice (some ⟨g, 0, none⟩) 32 cap) 32 (vals (fun i => ((gd s i : Nat) : Int)) 32) := by simpa using own1
  go_ret2
  have be : Below w1.heap.size w1 (w1.alloc (.cells #[.int .i64 (n : Nat), .int .i64 (m : Nat), .slice (some ⟨g, 0, none⟩) 32 cap, .slice none 0 0, .slice none 0 0, .slice none 0 0] 79)) := (Below.refl _ _).alloc (Nat.le_refl _) _
  have b2 := b1.trans (be.mono b1.size)
  obtain ⟨a', g', c', e, vw, _, ha⟩ := view_own own1' (fun i _ => by have := gd_lt HV.out.2.1.2 i; omega) (by decide)
  injection e with e1 _ e3
  have e2 := (ha (by rw [← e1]; simp)).2
  rw [← e1] at e2
  have e2 := Option.some.inj e2
  injection e2 with e2
  subst e2
  refine ⟨w1.heap.size, rfl, b2, fun i => i = g, ⟨some ⟨g, 0, none⟩, g, cap, none, 0, none, 0, none, 0, [], [], [], ?_⟩, b1.size, fun i q => q ▸ hg⟩
  refine ⟨⟨_, heap_alloc_new _ _, rfl, fun i hi => ?_⟩, ?_, rfl, NL.nil _ _, NL.nil _ _, NL.nil _ _, rfl, rfl, rfl, fun q hq => by simp at hq, fun q hq => by simp at hq, fun q hq => by simp at hq, List.Pairwise.nil, List.Pairwise.nil, List.Pairwise.nil, fun i q => ?_, Nat.le_trans HV.out.2.2.2.2.2.1 b1.size, fun q => ?_, HV.out.2.2.2.1, HV.out.2.2.2.2.1, fun i => gd_lt HV.out.2.1.2 i⟩
  · rcases (by omega : i = 0 ∨ i = 1 ∨ i = 2 ∨ i = 3 ∨ i = 4 ∨ i = 5) with rfl | rfl | rfl | rfl | rfl | rfl <;> rfl
  · rw [← e1] at vw
    exact vw.below be
  · subst q
    have := HV.out.2.2.2.2.2.1
    exact ⟨by omega, Nat.lt_of_lt_of_le hlt be.size⟩
  · have q : w1.heap.size = g := q
    omega
end Go.Proofs.YtlhllbggnpcoaaaGreatDoor
