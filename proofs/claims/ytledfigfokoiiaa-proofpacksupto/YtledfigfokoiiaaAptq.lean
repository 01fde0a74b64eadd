import Derived.Test.YtledfigfokoiiaaOgq
import Derived.OwnWalk
import Derived.ArgAppend
/-
  cairnlaw01.Apart: lists that share no room.
-/
namespace Go.Proofs.Ytledfigfokoiiaa
open Go.RowKit
/-- a list of bytes in a row of its own, by its cells -/
theorem own_row {w : World} {B g n cap : Nat} {xs : List Value} (h : w.ownsRow B 5 1 (.slice (some ⟨g, 0, none⟩) n cap) n xs) : (∃ f : Nat → Value, w.rowIs g 5 cap f ∧ ∀ i, i < n → xs[i]? = some (f i)) ∧ n ≤ cap ∧ cap ≤ maxLen ∧ B ≤ g := by
  rcases h.2 with ⟨h0, _⟩ | ⟨g', cap', cur, hv, hB, hg, hn, hm, hsz, htk⟩
  · cases h0
  · injection hv with h1 h2 h3
    injection h1 with h1
    injection h1 with h1
    subst h1
    subst h3
    refine ⟨⟨fun i => cur.getD i (.int .u8 0), ⟨cur, hg, by omega, fun i hi => ?_⟩, fun i hi => ?_⟩, hn, hm, hB⟩
    · show cur[i]? = some (cur.getD i (.int .u8 0))
      rw [Array.getD_eq_getD_getElem?, Array.getElem?_eq_getElem (by omega)]
      rfl
    · have c := h.cellAt i (by omega)
      rw [cell_of_row w g i cur 5 (0, 0) hg] at c
      show xs[i]? = some (cur.getD i (.int .u8 0))
      rw [← c, Array.getD_eq_getD_getElem?, Array.getElem?_eq_getElem (by omega)]
      rfl
theorem row_own {w : World} {B g n cap : Nat} {f : Nat → Value} (r : w.rowIs g 5 cap f) (hB : B ≤ g) (hn : n ≤ cap) (hm : cap ≤ maxLen) (xs : List Value) (hl : xs.length = n) (hx : ∀ i, i < n → xs[i]? = some (f i)) : w.ownsRow B 5 1 (.slice (some ⟨g, 0, none⟩) n cap) n xs := by
  obtain ⟨c, hg, hsz, hc⟩ := r
  refine ⟨by omega, Or.inr ⟨g, cap, c, rfl, hB, hg, hn, hm, by omega, ?_⟩⟩
  apply List.ext_getElem?
  intro i
  rw [Nat.mul_one, List.getElem?_take]
  by_cases hi : i < n
  · rw [if_pos hi, hx i hi]
    simpa using hc i (by omega)
  · rw [if_neg hi, List.getElem?_eq_none (by omega)]
/-- the first of them, and what lies behind them -/
theorem str_pre {w : World} {F : Nat → Prop} {g cap : Nat} {s m : List Nat} (h : Str w F (.slice (some ⟨g, 0, none⟩) (s ++ m).length cap) (s ++ m)) : Str w F (.slice (some ⟨g, 0, none⟩) s.length cap) s := by
  obtain ⟨⟨f, r, hf⟩, h1, h2, h3⟩ := own_row h.own
  have hl : (s ++ m).length = s.length + m.length := List.length_append
  have k := h.ok
  refine ⟨row_own r h3 (by omega) h2 (bv s) (bv_len s) (fun i hi => ?_), fun g hg => h.foot g hg, ⟨by have := k.1; omega, fun x hx => k.2 x (by simp [hx])⟩⟩
  have := hf i (by omega)
  rw [bv, List.map_append, List.getElem?_append_left (by simpa using hi)] at this
  exact this
abbrev nilS : Value := .slice none 0 0
theorem infoB : (Try.prog.info? 23).map (fun i => (i.zero, i.size, i.bytes)) = some (some nilS, 1, 24) := by kernel_rfl
abbrev Any : Nat → Prop := fun _ => True
/-- the mark of the list r -/
def mkr (r : Nat) : Nat := (r + 1) % 256
theorem mkr_lt (r : Nat) : mkr r < 256 := Nat.mod_lt _ (by decide)
theorem str_set {w : World} {F : Nat → Prop} {g cap : Nat} {s : List Nat} (h : Str w F (.slice (some ⟨g, 0, none⟩) s.length cap) s) (c m : Nat) (_hc : c < s.length) (hm : m < 256) : Str (w.setCell ⟨g, c, none⟩ (.int .u8 (m : Nat))) F (.slice (some ⟨g, 0, none⟩) s.length cap) (s.set c m) := by
  obtain ⟨⟨f, r, hf⟩, h1, h2, h3⟩ := own_row h.own
  refine ⟨?_, h.foot, ⟨by rw [List.length_set]; exact h.ok.1, fun x hx => ?_⟩⟩
  · rw [List.length_set]
    refine row_own (r.set c _) h3 h1 h2 _ (by rw [bv_len, List.length_set]) (fun i hi => ?_)
    have q := hf i hi
    unfold bv at q ⊢
    rw [List.map_set, List.getElem?_set]
    by_cases e : c = i
    · subst e
      rw [if_pos rfl, if_pos (by simpa using hi), if_pos rfl]
    · rw [if_neg e, if_neg (fun z => e z.symm)]
      exact q
  · rcases List.mem_or_eq_of_mem_set hx with q | q
    · exact h.ok.2 x q
    · rw [q]; exact hm
theorem sep_at {Us : List Value} (h : Us.Pairwise Sep) {r r' : Nat} {u u' : Value} (e : Us[r]? = some u) (e' : Us[r']? = some u') (hne : r ≠ r') : Sep u u' := by
  obtain ⟨h1, rfl⟩ := List.getElem?_eq_some_iff.1 e
  obtain ⟨h2, rfl⟩ := List.getElem?_eq_some_iff.1 e'
  rcases Nat.lt_or_gt_of_ne hne with q | q
  · exact List.pairwise_iff_getElem.1 h r r' h1 h2 q
  · exact (List.pairwise_iff_getElem.1 h r' r h2 h1 q).symm
theorem rep_of {s : List Nat} {n m : Nat} (hl : s.length = n) (h : ∀ i, i < n → gd s i = m) : s = List.replicate n m := ext_gd (by simp [hl]) (fun i hi => by
  rw [h i (by omega)]
  unfold gd
  rw [List.getD_eq_getElem?_getD, List.getElem?_replicate, if_pos (by omega)]
  rfl)
theorem gd_set {s : List Nat} {c m i : Nat} (hc : c < s.length) : gd (s.set c m) i = if i = c then m else gd s i := by
  unfold gd
  rw [List.getD_eq_getElem?_getD, List.getD_eq_getElem?_getD, List.getElem?_set]
  by_cases e : c = i
  · subst e; rw [if_pos rfl, if_pos hc, if_pos rfl]; rfl
  · rw [if_neg e, if_neg (fun z => e z.symm)]
/-- the lists, what they hold -/
def Lots (w : World) (Us : List Value) (N : Nat → Nat) (M : Nat → List Nat) : Prop := ∀ r u, Us[r]? = some u → Str w Any u (M r) ∧ (M r).length = N r
/-- the blocks of the lists -/
def Blk (Us : List Value) (i : Nat) : Prop := ∃ u ∈ Us, u.ownBlock = some i
theorem Lots.turn {w w' : World} {Us : List Value} {N : Nat → Nat} {M : Nat → List Nat} {G : Nat → Prop} (h : Lots w Us N M) (t : Turn G w w') (hd : ∀ i, Blk Us i → ¬ G i) : Lots w' Us N M := fun r u hu => ⟨⟨own_turn (h r u hu).1.own t (fun g hg => hd g ⟨u, List.mem_of_getElem? hu, hg⟩), (h r u hu).1.foot, (h r u hu).1.ok⟩, (h r u hu).2⟩
theorem Lots.set {w : World} {Us : List Value} {N : Nat → Nat} {M : Nat → List Nat} (h : Lots w Us N M) (sep : Us.Pairwise Sep) {k g cap c m : Nat} (hk : Us[k]? = some (.slice (some ⟨g, 0, none⟩) (N k) cap)) (hc : c < N k) (hm : m < 256) :
    Lots (w.setCell ⟨g, c, none⟩ (.int .u8 (m : Nat))) Us N (fun r => if r = k then (M k).set c m else M r) := fun r u hu => by
  have hl := (h k _ hk).2
  by_cases e : r = k
  · subst e
    simp only [if_true]
    rw [hk] at hu
    have := Option.some.inj hu
    subst this
    have hs := (h r _ hk).1
    rw [← hl] at hs ⊢
    exact ⟨str_set hs c m (by omega) hm, by rw [List.length_set]⟩
  · simp only [if_neg e]
    have t : Turn (fun i => i = g) w (w.setCell ⟨g, c, none⟩ (.int .u8 (m : Nat))) := Turn.setCell w _ _ rfl
    refine ⟨⟨own_turn (h r u hu).1.own t (fun g' hg' z => ?_), (h r u hu).1.foot, (h r u hu).1.ok⟩, (h r u hu).2⟩
    subst z
    exact sep_at sep hk hu (fun q => e q.symm) g' rfl hg'
theorem conv_mkr (k : Nat) : IntKind.u8.wrap ((k : Int) + 1) = ((mkr k : Nat) : Int) := by
  unfold mkr
  simp [IntKind.wrap, IntKind.bits, IntKind.signed]
theorem rep_pre {w : World} {F : Nat → Prop} {g cap n c m : Nat} (h : Str w F (.slice (some ⟨g, 0, none⟩) (n + c) cap) (List.replicate (n + c) m)) : Str w F (.slice (some ⟨g, 0, none⟩) n cap) (List.replicate n m) := by
  have e : List.replicate (n + c) m = List.replicate n m ++ List.replicate c m := List.replicate_append_replicate.symm
  have el : (List.replicate n m ++ List.replicate c m).length = n + c := by simp
  rw [e, ← el] at h
  have := str_pre h
  rw [List.length_replicate] at this
  exact this
theorem Str.turn' {w w' : World} {G : Nat → Prop} {u : Value} {s : List Nat} (h : Str w Any u s) (t : Turn G w w') (hd : ∀ g, u.ownBlock = some g → ¬ G g) : Str w' Any u s := ⟨own_turn h.own t hd, h.foot, h.ok⟩
/-- A LIST APPENDED TO: u, what it was; x, what it is, c marks longer -/
structure Ap (wo wi : World) (u x : Value) (n c m : Nat) : Prop where
  str : Str wi Any x (List.replicate (n + c) m)
  base : Str wi Any u (List.replicate n m)
  turn : Turn (fun i => u.ownBlock = some i) wo wi
  at_ : (∃ a cap, u = .slice a n cap ∧ x = .slice a (n + c) cap) ∨ (∀ g, x.ownBlock = some g → wo.heap.size ≤ g)
theorem Ap.start {w : World} {u : Value} {n m : Nat} (h : Str w Any u (List.replicate n m)) : Ap w w u u n 0 m := by
  obtain ⟨a, c, e⟩ : ∃ a c, u = .slice a n c := by
    have := h.own
    rw [List.length_replicate] at this
    exact own_slice this
  exact ⟨h, h, Turn.refl _ _, Or.inl ⟨a, c, e, e⟩⟩
set_option maxRecDepth 100000 in
/-- one mark more -/
theorem wpList_ap {wo wi : World} {ops : Array Oper} {rest : List Oper} {o : Oper} {a : Act} {Q : Exit → Act → World → Prop} (hgd : o.guard = none) (s y : Operand)
    (ho : o.op = .call { callee := .builtin .append, args := #[s, y], argTypes := #[23, 23] }) {u x : Value} {n c m : Nat} (h : Ap wo wi u x n c m) (hlo : ∀ g, u.ownBlock = some g → g < wo.heap.size) (hm : m < 256)
    (hs : a.eval s = x) (hy : a.eval y = .slice (some ⟨wi.heap.size, 0, none⟩) 1 1) (hb : n + c + 1 ≤ 140737488355328)
    (hK : ∀ x' w', Ap wo w' u x' n (c + 1) m → wpList Try.prog ops Q rest (a.put o.dst x') w') : wpList Try.prog ops Q (o :: rest) a (wi.alloc (.cells #[.int .u8 (m : Nat)] 5)) := by
  obtain ⟨i0, hi0, hz0, hz1, hz2⟩ := info_parts Try.info5
  have ev : bv (List.replicate (n + c) m) ++ [.int .u8 (m : Nat)] = bv (List.replicate (n + (c + 1)) m) := by
    rw [← Nat.add_assoc, List.replicate_succ', bv_app]
    rfl
  have own0 : (wi.alloc (.cells #[.int .u8 (m : Nat)] 5)).ownsRow 0 5 1 x (n + c) (bv (List.replicate (n + c) m)) := by
    have := h.str.own
    rw [List.length_replicate] at this
    exact this.alloc _
  have base0 := h.base.turn' (Turn.alloc wi (.cells #[.int .u8 (m : Nat)] 5) (F := fun _ => False)) (fun _ _ q => q)
  have t0 : Turn (fun i => u.ownBlock = some i) wo (wi.alloc (.cells #[.int .u8 (m : Nat)] 5)) := h.turn.trans (Turn.alloc wi _ (F := fun i => u.ownBlock = some i)) (fun i q => Or.inl q)
  have okx : Bs (List.replicate (n + (c + 1)) m) := ⟨by rw [List.length_replicate]; omega, fun z hz => by rw [List.eq_of_mem_replicate hz]; exact hm⟩
  have nw := World.news_of_block (w := wi.alloc (.cells #[.int .u8 (m : Nat)] 5)) (B := wi.heap.size) (cs := #[.int .u8 (m : Nat)]) (t := 5) (fr := (0, 0)) (heap_alloc_new _ _)
  obtain ⟨ax, cx, ex⟩ := own_slice own0
  by_cases room : n + c + 1 ≤ cx
  · have hax : ∃ g, ax = some ⟨g, 0, none⟩ := by
      rcases own0.2 with ⟨e, _⟩ | ⟨g, cap, cur, e, _⟩
      · rw [ex] at e
        injection e with _ _ e
        omega
      · rw [ex] at e
        injection e with e
        exact ⟨g, e⟩
    obtain ⟨g, rfl⟩ := hax
    subst ex
    refine wpList_append_fits _ hgd s y 23 ho 0 5 i0 1 Try.underlying23 hi0 hz1 g (n + c) cx _ hs own0 ⟨wi.heap.size, 0, none⟩ 1 1 [.int .u8 (m : Nat)] hy rfl nw (by simp [Value.oneCell']) room (fun w' own' gr => hK _ w' ?_)
    rw [ev] at own'
    have sx : Str w' Any (.slice (some ⟨g, 0, none⟩) (n + (c + 1)) cx) (List.replicate (n + (c + 1)) m) := ⟨by rw [List.length_replicate]; exact own', fun _ _ => trivial, okx⟩
    have t1 : Turn (fun i => i = g) (wi.alloc (.cells #[.int .u8 (m : Nat)] 5)) w' := Turn.of_grown gr (fun k e => (Option.some.inj e).symm)
    rcases h.at_ with ⟨a', cap', e1, e2⟩ | hfr
    · injection e2 with e2 _ e3
      subst e2
      subst e3
      subst e1
      exact ⟨sx, rep_pre sx, t0.trans t1 (fun i q => Or.inl (by rw [q]; rfl)), Or.inl ⟨_, _, rfl, rfl⟩⟩
    · have hg := hfr g rfl
      exact ⟨sx, base0.turn' t1 (fun g' hg' z => by have := hlo g' hg'; omega), t0.trans t1 (fun i q => Or.inr (by omega)), Or.inr hfr⟩
  · refine wpList_append_grows _ hgd s y 23 ho 5 i0 (.int .u8 0) 1 1 Try.underlying23 hi0 hz0 hz1 hz2 rfl (by decide) ax (n + c) cx (bv (List.replicate (n + c) m)) (hs.trans ex) (fun e => ?_) (by rw [bv_len, List.length_replicate]; omega) (fun b hb j z hz => ?_) ⟨wi.heap.size, 0, none⟩ 1 1 [.int .u8 (m : Nat)] hy rfl nw (by simp [Value.oneCell']) (by omega) (by unfold maxLen; omega) (by omega) (fun v' w' own' gr => hK v' w' ?_)
    · subst e
      rcases own0.2 with ⟨e, h0⟩ | ⟨g, cap, cur, e, _⟩
      · rw [ex] at e
        injection e with _ _ e
        exact ⟨h0, e⟩
      · rw [ex] at e
        injection e with e
        cases e
    · rcases own0.2 with ⟨e, h0⟩ | ⟨g, cap, cur, e, _⟩
      · rw [ex, hb] at e
        injection e with e
        cases e
      · rw [ex, hb] at e
        injection e with e
        have e := Option.some.inj e
        subst e
        exact own0.cells (g := g) (by rw [ex, hb]; rfl) j z hz
    · rw [ev] at own'
      have t1 : Turn (fun _ => False) (wi.alloc (.cells #[.int .u8 (m : Nat)] 5)) w' := Turn.of_grown gr (fun k e => (nomatch e))
      exact ⟨⟨by rw [List.length_replicate]; exact own_base own', fun _ _ => trivial, okx⟩, base0.turn' t1 (fun _ _ q => q), t0.trans t1 (fun i q => q.elim), Or.inr (fun g hg => by
        have h1 := (own'.lt g hg).1
        have h2 := t0.size
        omega)⟩
/-- THE SECOND LOOP: k lists are longer, each with its mark -/
structure Lon (W wr : World) (Us : List Value) (N : Nat → Nat) (X : Nat → Value) (v : Value) (k : Nat) : Prop where
  own : wr.ownsRow W.heap.size 23 1 v k ((List.range k).map X)
  str : ∀ r, r < k → Str wr Any (X r) (List.replicate (N r + 80) (mkr r))
  base : Lots wr Us N (fun r => List.replicate (N r) (mkr r))
  turn : Turn (Blk Us) W wr
  sep : ∀ r, r < k → ∀ r' u', Us[r']? = some u' → r' ≠ r → Sep u' (X r)
theorem Lon.start {W : World} {Us : List Value} {N : Nat → Nat} (h : Lots W Us N (fun r => List.replicate (N r) (mkr r))) : Lon W W Us N (fun _ => .bool true) (.slice none 0 0) 0 :=
  ⟨World.ownsRow_nil _ _ _ _, fun r hr => by omega, h, Turn.refl _ _, fun r hr => by omega⟩
theorem Lon.next {W wo wi w' : World} {Us : List Value} {N : Nat → Nat} {X : Nat → Value} {v v' u x : Value} {k : Nat} {o : Obj} (h : Lon W wo Us N X v k) (sp : Us.Pairwise Sep) (hu : Us[k]? = some u) (hW : ∀ i, Blk Us i → i < W.heap.size) (ha : Ap wo wi u x (N k) 80 (mkr k))
    (own' : w'.ownsRow W.heap.size 23 1 v' (k + 1) ((List.range k).map X ++ [x])) (gr : (wi.alloc o).grownBy w' v.ownBlock) : Lon W w' Us N (fun r => if r = k then x else X r) v' (k + 1) := by
  have ub : ∀ g, u.ownBlock = some g → g < wo.heap.size := fun g hg => by have := hW g ⟨u, List.mem_of_getElem? hu, hg⟩; have := h.turn.size; omega
  have t1 : Turn (fun i => u.ownBlock = some i) wo (wi.alloc o) := ha.turn.trans (Turn.alloc wi o (F := fun i => u.ownBlock = some i)) (fun i q => Or.inl q)
  have t2 : Turn (fun i => v.ownBlock = some i) (wi.alloc o) w' := Turn.of_grown gr (fun k e => e)
  -- the list's own row is no row of bytes
  have ov : (wi.alloc o).ownsRow W.heap.size 23 1 v k ((List.range k).map X) := own_turn h.own t1 (fun g hg z => by
    obtain ⟨cur, hc⟩ := own_block h.own hg
    have hk := (h.base k u hu).1
    exact hk.ne hc (by decide) z)
  have nv : ∀ (s : List Nat) (y : Value), Str (wi.alloc o) Any y s → ∀ g, y.ownBlock = some g → ¬ v.ownBlock = some g := fun s y hy g hg z => by
    obtain ⟨cur, hc⟩ := own_block ov z
    exact hy.ne hc (by decide) hg
  have sx : Str (wi.alloc o) Any x (List.replicate (N k + 80) (mkr k)) := ha.str.turn' (Turn.alloc wi o (F := fun _ => False)) (fun _ _ q => q)
  have sX : ∀ r, r < k → Str (wi.alloc o) Any (X r) (List.replicate (N r + 80) (mkr r)) := fun r hr => (h.str r hr).turn' t1 (fun g hg z => h.sep r hr k u hu (by omega) g z hg)
  have sB : Lots (wi.alloc o) Us N (fun r => List.replicate (N r) (mkr r)) := fun r y hy => by
    by_cases e : r = k
    · subst e
      rw [hu] at hy
      have := Option.some.inj hy
      subst this
      exact ⟨ha.base.turn' (Turn.alloc wi o (F := fun _ => False)) (fun _ _ q => q), by simp⟩
    · exact ⟨(h.base r y hy).1.turn' t1 (fun g hg z => sep_at sp hu hy (fun q => e q.symm) g z hg), by simp⟩
  refine ⟨?_, fun r hr => ?_, fun r y hy => ⟨(sB r y hy).1.turn' t2 (nv _ y (sB r y hy).1), by simp⟩, ?_, fun r hr r' u' hu' hne => ?_⟩
  · have e : (List.range (k + 1)).map (fun r => if r = k then x else X r) = (List.range k).map X ++ [x] := by
      rw [List.range_succ, List.map_append]
      congr 1
      · refine List.map_congr_left fun r hr => ?_
        have : r < k := by simpa using hr
        rw [if_neg (by omega)]
      · simp
    rw [e]
    exact own'
  · by_cases e : r = k
    · subst e
      simp only [if_true]
      exact sx.turn' t2 (nv _ x sx)
    · simp only [if_neg e]
      exact (sX r (by omega)).turn' t2 (nv _ _ (sX r (by omega)))
  · refine ((h.turn.trans t1 (fun i q => Or.inl ⟨u, List.mem_of_getElem? hu, q⟩))).trans t2 (fun i q => Or.inr (ov.lt i q).1)
  · by_cases e : r = k
    · subst e
      simp only [if_true]
      rcases ha.at_ with ⟨a, cap, e1, e2⟩ | hfr
      · have h1 := sep_at sp hu' hu hne
        rw [e1] at h1
        rw [e2]
        exact fun g q1 q2 => h1 g q1 (by
          cases a with
          | none => simp [Value.ownBlock] at q2
          | some p => exact q2)
      · intro g h1 h2
        have q1 := hW g ⟨u', List.mem_of_getElem? hu', h1⟩
        have q2 := hfr g h2
        have q3 := h.turn.size
        omega
    · simp only [if_neg e]
      exact h.sep r (by omega) r' u' hu' hne
set_option maxRecDepth 100000 in
set_option maxHeartbeats 3200000 in
theorem apart_any4 (w : World) (B : Nat) (al : Option Addr) (cl : Nat) (Us : List Value) (M0 : Nat → List Nat) (hl : w.ownsRow B 23 1 (.slice al Us.length cl) Us.length Us) (hs : ∀ r u, Us[r]? = some u → Str w Any u (M0 r)) (sep : Us.Pairwise Sep)
    (hlen : ∀ r, r < Us.length → (M0 r).length ≤ 140737488351232) (hn : Us.length ≤ 274877906944) :
    Calls Try.prog 13 #[.slice al Us.length cl] w fun e w' => e = .returned (.bool true) ∧ Turn (Blk Us) w w' := by
  obtain ⟨N, eN⟩ : ∃ N : Nat → Nat, N = fun r => (M0 r).length := ⟨_, rfl⟩
  have L0 : Lots w Us N M0 := fun r u hu => ⟨hs r u hu, by rw [eN]⟩
  have HB : Hid (∀ r, r < Us.length → N r ≤ 140737488351232) := by rw [eN]; exact hlen
  have HS : Hid (Us.Pairwise Sep) := sep
  have HL0 : Hid (Lots w Us N M0) := L0
  have HLB : Hid (0 < Us.length → ∃ lb, al = some ⟨lb, 0, none⟩ ∧ ∀ v, Turn (Blk Us) w v → ∀ r u, Us[r]? = some u → v.cell? ⟨lb, r, none⟩ = some u) := fun h0 => by
    obtain ⟨lb, cap, e, _, hlt⟩ := hl.form h0
    injection e with e1 _ e3
    refine ⟨lb, e1, fun v hv r u hu => ?_⟩
    obtain ⟨cur, hc⟩ := own_block hl (g := lb) (by rw [e1]; rfl)
    have c0 := hl.cells (g := lb) (by rw [e1]; rfl) r u hu
    rw [add_flat] at c0
    refine (hv.cell (q := ⟨lb, r, none⟩) hlt (fun z => ?_)).trans c0
    obtain ⟨u', hu', hg⟩ := z
    obtain ⟨m, hm, e'⟩ := List.getElem_of_mem hu'
    exact (hs m u' (by rw [List.getElem?_eq_getElem hm, e'])).ne hc (by decide) hg
  obtain ⟨n, en⟩ : ∃ n, n = Us.length := ⟨_, rfl⟩
  have HE : Hid (n = Us.length) := en
  rw [← en] at HB HLB hn ⊢
  clear hl hs sep hlen L0 eN en
  go_enter Try.func13, Try.ntmps13
  go_wp2_with fail
  go_loopg [3] n (fun gg ii wr => ∃ (k : Nat) (M : Nat → List Nat), k ≤ n ∧ gg = n - k ∧ ii = .int .i64 k ∧ Turn (Blk Us) w wr ∧ Lots wr Us N M ∧ ∀ r, r < k → M r = List.replicate (N r) (mkr r))
  case atStart => exact ⟨0, M0, Nat.zero_le _, rfl, rfl, Turn.refl _ _, HL0.out, fun r hr => by omega⟩
  case round =>
    obtain ⟨k, M, hk, rfl, rfl, ht, hL, hM⟩ := hrel
    clear HL0
    by_cases hkn : k < n
    · have i1 : (k : Int) < (n : Int) := by omega
      obtain ⟨lb, rfl, hcell⟩ := HLB.out (by omega)
      have HCL : Hid (∀ v, Turn (Blk Us) w v → ∀ r u, Us[r]? = some u → v.cell? ⟨lb, r, none⟩ = some u) := hcell
      obtain ⟨u, eu⟩ : ∃ u, Us[k]? = some u := ⟨_, List.getElem?_eq_getElem (by have := HE.out; omega)⟩
      obtain ⟨a, c, eu2⟩ : ∃ a c, u = .slice a (N k) c := by
        have := (hL k u eu).1.own
        rw [(hL k u eu).2] at this
        exact own_slice this
      subst eu2
      have HU : Hid (Us[k]? = some (.slice a (N k) c)) := eu
      have HNK : Hid (N k ≤ 140737488351232) := HB.out k hkn
      have H1 : Hid (Turn (Blk Us) w wr ∧ Lots wr Us N M ∧ ∀ r, r < k → M r = List.replicate (N r) (mkr r)) := ⟨ht, hL, hM⟩
      clear hcell eu ht hL hM
      go_wp2_with fail
      go_loopg [4] (N k) (fun gg jj wq => ∃ (j : Nat) (M' : Nat → List Nat), j ≤ N k ∧ gg = N k - j ∧ jj = .int .i64 j ∧ Turn (Blk Us) w wq ∧ Lots wq Us N M' ∧ (∀ r, r < k → M' r = List.replicate (N r) (mkr r)) ∧ ∀ i, i < j → gd (M' k) i = mkr k)
      case atStart => exact ⟨0, M, Nat.zero_le _, rfl, rfl, H1.out.1, H1.out.2.1, H1.out.2.2, fun i hi => by omega⟩
      case round =>
        clear H1
        obtain ⟨j, M', hj, rfl, rfl, ht, hL, hM, hd⟩ := hrel
        have H1 : Hid (Turn (Blk Us) w wr ∧ Lots wr Us N M' ∧ (∀ r, r < k → M' r = List.replicate (N r) (mkr r)) ∧ ∀ i, i < j → gd (M' k) i = mkr k) := ⟨ht, hL, hM, hd⟩
        have g0 := HCL.out wr ht k _ HU.out
        have n0 := HNK.out
        clear ht hM hd
        by_cases hjN : j < N k
        · have i2 : (j : Int) < (N k : Int) := by omega
          have ho := (hL k _ HU.out).1.own
          have hlk := (hL k _ HU.out).2
          rw [hlk] at ho
          obtain ⟨g, cap, e, _, _⟩ := ho.form (by omega)
          injection e with e1 _ e3
          subst e1
          subst e3
          obtain ⟨⟨f, r, hf⟩, q1, _, _⟩ := own_row ho
          have g1 := r.cell (i := j) (by omega)
          have g2 := r.frozen j
          have g3 : f j = .int .u8 ((gd (M' k) j : Nat) : Int) := by
            have := hf j hjN
            rw [bv_at (by omega)] at this
            exact (Option.some.inj this).symm
          rw [g3] at g1
          have cv := conv_mkr k
          have HNX : Hid (∃ M2 : Nat → List Nat, Turn (Blk Us) w (wr.setCell ⟨g, j, none⟩ (.int .u8 (mkr k : Nat))) ∧ Lots (wr.setCell ⟨g, j, none⟩ (.int .u8 (mkr k : Nat))) Us N M2 ∧ (∀ r, r < k → M2 r = List.replicate (N r) (mkr r)) ∧ ∀ i, i < j + 1 → gd (M2 k) i = mkr k) := by
            refine ⟨fun r => if r = k then (M' k).set j (mkr k) else M' r, H1.out.1.trans (Turn.setCell wr ⟨g, j, none⟩ _ (F := Blk Us) ⟨_, List.mem_of_getElem? HU.out, rfl⟩) (fun i q => Or.inl q), H1.out.2.1.set HS.out HU.out hjN (mkr_lt k), fun r hr => ?_, fun i hi => ?_⟩
            · show (if r = k then (M' k).set j (mkr k) else M' r) = _
              rw [if_neg (by omega)]
              exact H1.out.2.2.1 r hr
            · show gd (if k = k then (M' k).set j (mkr k) else M' k) i = _
              rw [if_pos rfl, gd_set (by omega)]
              by_cases q : i = j
              · rw [if_pos q]
              · rw [if_neg q]
                exact H1.out.2.2.2 i (by omega)
          clear hL ho hlk r hf g3 q1 H1
          go_wp2_with fail
          go_roundg (N k - (j + 1))
          case measure => omega
          case rel =>
            obtain ⟨M2, hM2⟩ := HNX.out
            exact ⟨j + 1, M2, hjN, rfl, by go_num, hM2⟩
        · have ej : j = N k := by omega
          have i2 : ¬ ((j : Int) < (N k : Int)) := by omega
          have H2 : Hid (Turn (Blk Us) w wr ∧ Lots wr Us N M' ∧ ∀ r, r < k + 1 → M' r = List.replicate (N r) (mkr r)) := ⟨H1.out.1, H1.out.2.1, fun r hr => by
            by_cases q : r = k
            · subst q
              exact rep_of (H1.out.2.1 r _ HU.out).2 (fun i hi => H1.out.2.2.2 i (by omega))
            · exact H1.out.2.2.1 r (by omega)⟩
          clear H1 hL
          go_wp2_with fail
          go_roundg (n - (k + 1))
          case measure => omega
          case rel => exact ⟨k + 1, M', hkn, rfl, by go_num, H2.out⟩
    · have ek : k = n := by omega
      have i1 : ¬ ((k : Int) < (n : Int)) := by omega
      have hL' : Lots wr Us N (fun r => List.replicate (N r) (mkr r)) := fun r u hu => by
        have hr : r < n := by have := (List.getElem?_eq_some_iff.1 hu).1; have := HE.out; omega
        have h1 := hL r u hu
        rw [hM r (by omega)] at h1
        exact h1
      have hW : ∀ i, Blk Us i → i < wr.heap.size := fun i q => by
        obtain ⟨u, hu, hg⟩ := q
        obtain ⟨r, hr, e⟩ := List.getElem_of_mem hu
        exact ((hL r u (by rw [List.getElem?_eq_getElem hr, e])).1.own.lt i hg).2
      obtain ⟨W, eW⟩ : ∃ W, W = wr := ⟨_, rfl⟩
      subst eW
      have H1 : Hid (Turn (Blk Us) w W ∧ Lots W Us N (fun r => List.replicate (N r) (mkr r)) ∧ ∀ i, Blk Us i → i < W.heap.size) := ⟨ht, hL', hW⟩
      clear ht hL hM hL' hW ek
      obtain ⟨i0, hi0, hz0, hz1, hz2⟩ := info_parts infoB
      have HI : Hid (Try.prog.info? 23 = some i0 ∧ i0.zero = some nilS ∧ i0.size = 1 ∧ i0.bytes = 24) := ⟨hi0, hz0, hz1, hz2⟩
      clear hi0 hz0 hz1 hz2
      go_wp2_with fail
      go_loopg [5, 6] n (fun gg v ii wr => ∃ (k : Nat) (X : Nat → Value), k ≤ n ∧ gg = n - k ∧ ii = .int .i64 k ∧ Lon W wr Us N X v k)
      case atStart => exact ⟨0, _, Nat.zero_le _, rfl, rfl, Lon.start H1.out.2.1⟩
      case round =>
        obtain ⟨k, X, hk, rfl, rfl, hO⟩ := hrel
        by_cases hkn : k < n
        · have i2 : (k : Int) < (n : Int) := by omega
          obtain ⟨lb, rfl, hcell⟩ := HLB.out (by omega)
          obtain ⟨u, eu⟩ : ∃ u, Us[k]? = some u := ⟨_, List.getElem?_eq_getElem (by have := HE.out; omega)⟩
          have HU : Hid (Us[k]? = some u) := eu
          have c0 := hcell wr (H1.out.1.trans hO.turn (fun i q => Or.inl q)) k u eu
          have HO : Hid (Lon W wr Us N X u5 k) := hO
          have n0 := HB.out k hkn
          have HUB : Hid (∀ g, u.ownBlock = some g → g < wr.heap.size) := fun g hg => ((hO.base k u eu).1.own.lt g hg).2
          have hA0 : Ap wr wr u u (N k) 0 (mkr k) := Ap.start (hO.base k u eu).1
          have cv := conv_mkr k
          obtain ⟨wo, ewo⟩ : ∃ wo, wo = wr := ⟨_, rfl⟩
          subst ewo
          have HA0 : Hid (Ap wo wo u u (N k) 0 (mkr k)) := hA0
          clear hcell eu hO hA0
          go_wp2_with fail
          go_loopg [7, 8] 80 (fun gg x jj wi => ∃ c : Nat, c ≤ 80 ∧ gg = 80 - c ∧ jj = .int .i64 c ∧ Ap wo wi u x (N k) c (mkr k))
          case atStart => exact ⟨0, by omega, rfl, rfl, HA0.out⟩
          case round =>
            clear HA0
            obtain ⟨c, hc, rfl, rfl, hA⟩ := hrel
            have HA : Hid (Ap wo wr u u7 (N k) c (mkr k)) := hA
            clear hA
            by_cases hc80 : c < 80
            · have i3 : (c : Int) < 80 := by omega
              go_wp2_with (at_builtin; refine wpList_ap (by rfl) (.tmp 49) (.tmp 53) (by rfl) HA.out HUB.out (mkr_lt k) (by rfl) (by rfl) (by omega) ?_; intro x' w1 hA1)
              have HA1 : Hid (Ap wo w1 u x' (N k) (c + 1) (mkr k)) := hA1
              clear hA1 HA
              go_wp2_with fail
              go_roundg (80 - (c + 1))
              case measure => omega
              case rel => exact ⟨c + 1, hc80, rfl, by go_num, HA1.out⟩
            · have ec : c = 80 := by omega
              subst ec
              have i3 : ¬ ((80 : Nat) : Int) < 80 := by omega
              have own5 : wr.ownsRow W.heap.size 23 1 u5 k ((List.range k).map X) := own_turn HO.out.own HA.out.turn (fun g hg z => by
                obtain ⟨cur, hc⟩ := own_block HO.out.own hg
                exact ((HO.out.base k u HU.out).1).ne hc (by decide) z)
              obtain ⟨ax, cx, ex⟩ : ∃ a c, u7 = .slice a (N k + 80) c := by
                have := HA.out.str.own
                rw [List.length_replicate] at this
                exact own_slice this
              subst ex
              have HO5 : Hid (wr.ownsRow W.heap.size 23 1 u5 k ((List.range k).map X) ∧ W.heap.size ≤ wr.heap.size) := ⟨own5, Nat.le_trans HO.out.turn.size HA.out.turn.size⟩
              clear own5
              go_wp2_with (at_builtin; refine wpList_append_lies _ (by rfl) _ _ 22 (by rfl) W.heap.size 23 i0 nilS 1 24 Try.underlying22 HI.out.1 HI.out.2.1 HI.out.2.2.1 HI.out.2.2.2 (by rfl) (by decide) u5 k ((List.range k).map X) (by rfl) (HO5.out.1.alloc _) ⟨wr.heap.size, 0, none⟩ 1 1 [.slice ax (N k + 80) cx] (by rfl) (by rfl) (World.news_of_block (cs := #[.slice ax (N k + 80) cx]) (t := 23) (fr := (0, 0)) (heap_alloc_new _ _)) (by simp [Value.oneCell']) (by decide) (by unfold maxLen; omega) (by omega) (by have := HO5.out.2; simp; omega) _ (by rfl) ?_; intro g9 cap9 w9 own9 gr9 at9 lt9)
              have hN := HO.out.next HS.out HU.out H1.out.2.2 HA.out own9 gr9
              have HN2 : Hid (∃ X', Lon W w9 Us N X' (.slice (some ⟨g9, 0, none⟩) (k + 1) cap9) (k + 1)) := ⟨_, hN⟩
              clear hN own9 gr9 at9 lt9 HA HO5 HO
              go_wp2_with fail
              go_roundg (n - (k + 1))
              case measure => omega
              case rel =>
                obtain ⟨X', hX'⟩ := HN2.out
                exact ⟨k + 1, X', hkn, rfl, by go_num, hX'⟩
        · have ek : k = n := by omega
          have i2 : ¬ ((k : Int) < (n : Int)) := by omega
          subst ek
          obtain ⟨V, eV⟩ : ∃ V, V = wr := ⟨_, rfl⟩
          subst eV
          obtain ⟨al5, cl5, e5⟩ := own_slice hO.own
          subst e5
          have HO : Hid (Lon W V Us N X (.slice al5 k cl5) k ∧ Turn (Blk Us) w V) := ⟨hO, H1.out.1.trans hO.turn (fun i q => Or.inl q)⟩
          clear hO H1
          go_wp2_with fail
          go_loopg [9] k (fun gg ii wr => ∃ r : Nat, r ≤ k ∧ gg = k - r ∧ ii = .int .i64 r ∧ wr = V)
          case atStart => exact ⟨0, Nat.zero_le _, rfl, rfl, rfl⟩
          case round =>
            obtain ⟨r, hr, rfl, rfl, ewr⟩ := hrel
            subst ewr
            by_cases hrk : r < k
            · have i3 : (r : Int) < (k : Int) := by omega
              obtain ⟨lb, rfl, hcell⟩ := HLB.out (by omega)
              obtain ⟨u, eu⟩ : ∃ u, Us[r]? = some u := ⟨_, List.getElem?_eq_getElem (by have := HE.out; omega)⟩
              have c0 := hcell wr HO.out.2 r u eu
              have hbu := HO.out.1.base r u eu
              obtain ⟨au, cu, eu2⟩ : ∃ a c, u = .slice a (N r) c := by
                have := hbu.1.own
                rw [hbu.2] at this
                exact own_slice this
              subst eu2
              have hx := HO.out.1.str r hrk
              obtain ⟨xg, xc, ex, _, _⟩ := hx.own.form (by rw [List.length_replicate]; omega)
              rw [List.length_replicate] at ex
              obtain ⟨lg, lc, e5, _, _⟩ := HO.out.1.own.form (by omega)
              injection e5 with e5 _ e6
              subst e5
              subst e6
              have c1 : wr.cell? ⟨lg, r, none⟩ = some (.slice (some ⟨xg, 0, none⟩) (N r + 80) xc) := by
                have := HO.out.1.own.cells (g := lg) rfl r (X r) (by rw [List.getElem?_map, List.getElem?_range hrk]; rfl)
                rw [add_flat, ex] at this
                exact this
              have HX : Hid (∀ j, j < N r + 80 → wr.cell? ⟨xg, j, none⟩ = some (.int .u8 (mkr r : Nat))) := fun j hj => by
                have := hx.own.cells (g := xg) (by rw [ex]; rfl) j (.int .u8 (mkr r : Nat)) (by
                  unfold bv
                  rw [List.getElem?_map, List.getElem?_replicate, if_pos hj]
                  rfl)
                rw [add_flat] at this
                exact this
              have HU : Hid (∀ j, j < N r → ∃ g, au = some ⟨g, 0, none⟩ ∧ wr.cell? ⟨g, j, none⟩ = some (.int .u8 (mkr r : Nat))) := fun j hj => by
                have ho := hbu.1.own
                rw [List.length_replicate] at ho
                obtain ⟨g, cap, e, _, _⟩ := ho.form (by omega)
                injection e with e1 _ _
                subst e1
                have := ho.cells (g := g) rfl j (.int .u8 (mkr r : Nat)) (by
                  unfold bv
                  rw [List.getElem?_map, List.getElem?_replicate, if_pos hj]
                  rfl)
                rw [add_flat] at this
                exact ⟨g, rfl, this⟩
              have n0 := HB.out r hrk
              have cv := conv_mkr r
              clear hcell eu hbu hx ex
              go_wp2_with fail
              go_loopg [10] (N r + 80) (fun gg jj wi => ∃ c : Nat, c ≤ N r + 80 ∧ gg = N r + 80 - c ∧ jj = .int .i64 c ∧ wi = wr)
              case atStart => exact ⟨0, Nat.zero_le _, rfl, rfl, rfl⟩
              case round =>
                obtain ⟨c, hc, rfl, rfl, ewi⟩ := hrel
                subst ewi
                by_cases hcN : c < N r + 80
                · have i4 : (c : Int) < (N r : Int) + 80 := by omega
                  have c2 := HX.out c hcN
                  by_cases hcl : c < N r
                  · have i5 : (c : Int) < (N r : Int) := by omega
                    obtain ⟨g, rfl, c3⟩ := HU.out c hcl
                    go_wp2_with fail
                    go_roundg (N r + 80 - (c + 1))
                    case measure => omega
                    case rel => exact ⟨c + 1, hcN, rfl, by go_num, rfl⟩
                  · have i5 : ¬ ((c : Int) < (N r : Int)) := by omega
                    go_wp2_with fail
                    go_roundg (N r + 80 - (c + 1))
                    case measure => omega
                    case rel => exact ⟨c + 1, hcN, rfl, by go_num, rfl⟩
                · have i4 : ¬ ((c : Int) < (N r : Int) + 80) := by omega
                  go_wp2_with fail
                  go_roundg (k - (r + 1))
                  case measure => omega
                  case rel => exact ⟨r + 1, hrk, rfl, by go_num, rfl⟩
            · have i3 : ¬ ((r : Int) < (k : Int)) := by omega
              go_wp2_with fail
              go_ret
              exact ⟨rfl, HO.out.2⟩
end Go.Proofs.Ytledfigfokoiiaa
