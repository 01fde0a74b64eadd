/-
  cairnlaw05: room; lists written into and appended to.
-/
import Derived.Test.YtlpmcdnhnhgmpaaGat
import Derived.Test.YtlpmcdnhnhgmpaaYr
import Derived.Laws.BitsAllLaws
import Derived.Laws.OwnMore
import Derived.Shelf.Abstract
import Derived.Great.BuildSlice
namespace Go.Proofs.Ytlpmcdnhnhgmpaa
open Go.RowKit

set_option maxRecDepth 100000 in
set_option maxHeartbeats 1600000 in
theorem room_any (w : World) (m : Nat) :
    Calls Try.prog 36 #[.int .u8 m] w fun e w' => e = .returned (.slice (some ⟨w.heap.size, 0, none⟩) 64 64) ∧ Rm w' w.heap.size (List.replicate 64 m) ∧ Below w.heap.size w w' := by
  have hmk := run_make_row' (P := Try.prog) 22 5 (.int .u8 0) 1 Try.underlying22 Try.info5 rfl .i64 .i64 64 (by omega) (by omega)
  rw [show (((64 : Nat)) : Int) = 64 from rfl] at hmk
  obtain ⟨w1, ew1⟩ : ∃ w1, w1 = w.alloc (.cells (madeCells #[.int .u8 0] 64) 5) := ⟨_, rfl⟩
  have b1 : Below w.heap.size w w1 := by rw [ew1]; exact below_alloc _ _
  have r1 : w1.rowIs w.heap.size 5 64 (fun _ => .int .u8 0) := by rw [ew1]; exact World.rowIs_made w _ 64 5
  have HW : Hid (w1 = w.alloc (.cells (madeCells #[.int .u8 0] 64) 5) ∧ Below w.heap.size w w1 ∧ w1.rowIs w.heap.size 5 64 (fun _ => .int .u8 0)) := ⟨ew1, b1, r1⟩
  clear ew1 b1 r1
  go_enter Try.func36, Try.ntmps36
  go_wp2_with fail
  rw [← HW.out.1]
  go_loopg [8] 64 (fun gg k wr => ∃ (i : Nat) (f : Nat → Value), i ≤ 64 ∧ gg = 64 - i ∧ k = .int .i64 i ∧ wr.rowIs w.heap.size 5 64 f ∧ (∀ j, j < i → f j = .int .u8 (m : Nat)) ∧ Below w.heap.size w wr)
  case atStart => exact ⟨0, _, Nat.zero_le _, rfl, rfl, HW.out.2.2, fun j hj => by omega, HW.out.2.1⟩
  case round =>
    obtain ⟨i, f, hi, rfl, rfl, hr, hf, hb⟩ := hrel
    have HR : Hid (wr.rowIs w.heap.size 5 64 f ∧ (∀ j, j < i → f j = .int .u8 (m : Nat)) ∧ Below w.heap.size w wr) := ⟨hr, hf, hb⟩
    by_cases h64 : i < 64
    · have i1 : (i : Int) < 64 := by omega
      have c1 := hr.cell h64
      have c2 := hr.frozen i
      clear hr hf hb
      go_wp2_with fail
      go_roundg (64 - (i + 1))
      case measure => omega
      case rel =>
        refine ⟨i + 1, _, h64, rfl, by go_num, HR.out.1.set i _, fun j hj => ?_, HR.out.2.2.trans ((Turn.setCell (F := fun k => k = w.heap.size) wr ⟨w.heap.size, i, none⟩ _ rfl).below (fun k q => by omega) HR.out.2.2.size)⟩
        by_cases e : j = i
        · rw [if_pos e]
        · rw [if_neg e]; exact HR.out.2.1 j (by omega)
    · have e64 : i = 64 := by omega
      subst e64
      clear hr hf hb
      go_wp2_with fail
      go_ret
      refine ⟨rfl, Rm.of_row HR.out.1 (by simp) (fun j hj => ?_), HR.out.2.2⟩
      rw [HR.out.2.1 j hj]
      unfold gd
      rw [List.getD_eq_getElem?_getD, List.getElem?_replicate, if_pos hj]
      rfl

/-- A LIST APPENDED TO: u, what it was; x, what it is, R longer -/
structure Gw (wo wi : World) (u x : Value) (s R : List Nat) : Prop where
  str : Str wi Any x (s ++ R)
  base : Str wi Any u s
  turn : Turn (fun i => u.ownBlock = some i) wo wi
  at_ : (∃ a cap, u = .slice a s.length cap ∧ x = .slice a (s.length + R.length) cap) ∨ (∀ g, x.ownBlock = some g → wo.heap.size ≤ g)
theorem rm_cells {w : World} {g : Nat} {R : List Nat} (h : Rm w g R) : ∀ j u, (bv R)[j]? = some u → w.cell? ((⟨g, 0, none⟩ : Addr).add j) = some u := fun j u hu => by
  rw [add_flat, cell_of_row _ _ _ _ 5 _ h]
  simpa using hu
theorem bv_one {R : List Nat} : ∀ u ∈ bv R, u.oneCell' = true := by
  intro u hu
  obtain ⟨x, _, rfl⟩ := List.mem_map.1 hu
  rfl
set_option maxRecDepth 100000 in
/-- as one step of a region that draws its order -/
theorem step_gw {wo : World} {ops : Array Oper} {o : Oper} {a : Act} {K : Act → World → Prop} {Q : Exit → Act → World → Prop} {E : Prop} (hgd : o.guard = none) (sl y : Operand)
    (ho : o.op = .call { callee := .builtin .append, args := #[sl, y], argTypes := #[22, 22] }) (u : Value) (s R : List Nat) (hs : a.eval sl = u) (hu : Str wo Any u s) (rg : Nat) (hy : a.eval y = .slice (some ⟨rg, 0, none⟩) R.length R.length) (hr : Rm wo rg R) (hR : ∀ x ∈ R, x < 256) (hR0 : 0 < R.length)
    (hb : s.length + R.length ≤ 140737488355328)
    (hK : ∀ x' w', Gw wo w' u x' s R → K (a.put o.dst x') w') : if Region.wanted o (yielded ops a.tmps) = true then Oper.wp Try.prog o a wo K Q else E := by
  have hw : Region.wanted o (yielded ops a.tmps) = true := by simp [Region.wanted, hgd]
  rw [if_pos hw]
  obtain ⟨i0, hi0, hz0, hz1, hz2⟩ := info_parts Try.info5
  have ls : (s ++ R).length = s.length + R.length := List.length_append
  have okx : Bs (s ++ R) := ⟨by rw [ls]; omega, fun z hz => by
    rcases List.mem_append.1 hz with q | q
    · exact hu.ok.2 z q
    · exact hR z q⟩
  have own0 := hu.own
  obtain ⟨ax, cx, ex⟩ := own_slice own0
  by_cases room : s.length + R.length ≤ cx
  · have hax : ∃ g, ax = some ⟨g, 0, none⟩ := by
      rcases own0.2 with ⟨e, _⟩ | ⟨g, cap, cur, e, _⟩
      · rw [ex] at e
        injection e with _ _ e
        omega
      · rw [ex] at e
        injection e with e
        exact ⟨g, e⟩
    obtain ⟨g, rfl⟩ := hax
    subst ex
    obtain ⟨w', hrun, own', gr⟩ := run_append_fits (P := Try.prog) wo 0 22 o.type 5 i0 1 Try.underlying22 hi0 hz1 g s.length cx (bv s) own0 ⟨rg, 0, none⟩ R.length R.length (bv R) (by rw [bv_len]; omega) (rm_cells hr) bv_one room
    unfold Oper.wp
    simp [execOp, ho, resolve, invoke, builtin, hs, hy, hrun, Result.andThen]
    refine hK _ w' ?_
    rw [← bv_app, ← ls] at own'
    have sx : Str w' Any (.slice (some ⟨g, 0, none⟩) (s ++ R).length cx) (s ++ R) := ⟨own', fun _ _ => trivial, okx⟩
    have t1 : Turn (fun i => i = g) wo w' := Turn.of_grown gr (fun k e => (Option.some.inj e).symm)
    refine ⟨by rw [← ls]; exact sx, str_pre sx, t1.mono (fun i q => Or.inl (by rw [q]; rfl)), Or.inl ⟨_, _, rfl, rfl⟩⟩
  · have key : ∃ v' w', (Builtin.append_ #[22, 22] o.type #[u, .slice (some ⟨rg, 0, none⟩) R.length R.length]).run Try.prog wo = .ok v' w' ∧ w'.ownsRow wo.heap.size 5 1 v' (s.length + R.length) (bv s ++ bv R) ∧ wo.grownBy w' none := by
      cases ax with
      | none =>
        have hn : u = .slice none 0 0 ∧ s = [] := by
          rcases own0.2 with ⟨e, q⟩ | ⟨g, cap, cur, e, _⟩
          · exact ⟨e, List.eq_nil_of_length_eq_zero q⟩
          · rw [ex] at e
            injection e with e
            cases e
        obtain ⟨rfl, rfl⟩ := hn
        obtain ⟨v', w', hrun, r1, r2, _⟩ := run_append_own (P := Try.prog) wo wo.heap.size 22 o.type 5 i0 (.int .u8 0) 1 1 Try.underlying22 hi0 hz0 hz1 hz2 rfl (by decide) (.slice none 0 0) 0 [] (World.ownsRow_nil wo _ 5 1) ⟨rg, 0, none⟩ R.length R.length (bv R) (by rw [bv_len]; omega) (rm_cells hr) bv_one (by unfold maxLen; simp at hb ⊢; omega) (by simp at hb ⊢; omega) (Nat.le_refl _)
        exact ⟨v', w', hrun, r1, r2⟩
      | some p =>
        rw [ex]
        obtain ⟨g, cap, cur, e, _⟩ : ∃ g cap cur, (Value.slice (some p) s.length cx) = .slice (some ⟨g, 0, none⟩) s.length cap ∧ wo.heap[g]? = some (.cells cur 5 (0, 0)) := by
          rcases own0.2 with ⟨e, q⟩ | ⟨g, cap, cur, e, _, hg, _⟩
          · rw [ex] at e
            injection e with e
            cases e
          · exact ⟨g, cap, cur, by rw [← ex, e], hg⟩
        injection e with e1 _ e3
        have e1 := Option.some.inj e1
        subst e1
        refine run_append_arg_grows (P := Try.prog) wo 22 o.type 5 i0 (.int .u8 0) 1 1 Try.underlying22 hi0 hz0 hz1 hz2 rfl (by decide) ⟨g, 0, none⟩ s.length cx (bv s) (by rw [bv_len]; omega) (fun j z hz => ?_) ⟨rg, 0, none⟩ R.length R.length (bv R) (by rw [bv_len]; omega) (rm_cells hr) (by omega) (by unfold maxLen; omega) (by omega)
        exact own0.cells (g := g) (by rw [ex]; rfl) j z hz
    obtain ⟨v', w', hrun, own', gr⟩ := key
    unfold Oper.wp
    simp [execOp, ho, resolve, invoke, builtin, hs, hy, hrun, Result.andThen]
    refine hK v' w' ?_
    rw [← bv_app, ← ls] at own'
    have t1 : Turn (fun _ => False) wo w' := Turn.of_grown gr (fun k e => (nomatch e))
    exact ⟨⟨own_base own', fun _ _ => trivial, okx⟩, hu.turn' t1 (fun _ _ q => q), t1.mono (fun i q => q.elim), Or.inr (fun g hg => (own'.lt g hg).1)⟩

/-- k LISTS ARE LONGER -/
structure Sm (W wr : World) (Us : List Value) (N : Nat → Nat) (M R : Nat → List Nat) (X : Nat → Value) (v : Value) (k : Nat) : Prop where
  own : wr.ownsRow W.heap.size 22 1 v k ((List.range k).map X)
  str : ∀ r, r < k → Str wr Any (X r) (M r ++ R r)
  base : Lots wr Us N M
  turn : Turn (Blk Us) W wr
  sep : ∀ r, r < k → ∀ r' u', Us[r']? = some u' → r' ≠ r → Sep u' (X r)
theorem Sm.start {W : World} {Us : List Value} {N : Nat → Nat} {M R : Nat → List Nat} (h : Lots W Us N M) : Sm W W Us N M R (fun _ => .bool true) (.slice none 0 0) 0 :=
  ⟨World.ownsRow_nil _ _ _ _, fun r hr => by omega, h, Turn.refl _ _, fun r hr => by omega⟩
theorem Sm.below {W wr w' : World} {Us : List Value} {N : Nat → Nat} {M R : Nat → List Nat} {X : Nat → Value} {v : Value} {k : Nat} (h : Sm W wr Us N M R X v k) (q : Below wr.heap.size wr w') : Sm W w' Us N M R X v k :=
  ⟨own_same h.own (fun g hg => q.block g (h.own.lt g hg).2), fun r hr => ⟨own_same (h.str r hr).own (fun g hg => q.block g ((h.str r hr).own.lt g hg).2), (h.str r hr).foot, (h.str r hr).ok⟩, fun r u hu => ⟨⟨own_same (h.base r u hu).1.own (fun g hg => q.block g ((h.base r u hu).1.own.lt g hg).2), (h.base r u hu).1.foot, (h.base r u hu).1.ok⟩, (h.base r u hu).2⟩, h.turn.trans (Turn.of_below q (F := Blk Us)) (fun _ z => Or.inl z), h.sep⟩
theorem Sm.next {W wo wi w' : World} {Us : List Value} {N : Nat → Nat} {M R : Nat → List Nat} {X : Nat → Value} {v v' u x : Value} {k : Nat} {o : Obj} (h : Sm W wo Us N M R X v k) (sp : Us.Pairwise Sep) (hu : Us[k]? = some u) (hW : ∀ i, Blk Us i → i < W.heap.size) (ha : Gw wo wi u x (M k) (R k))
    (own' : w'.ownsRow W.heap.size 22 1 v' (k + 1) ((List.range k).map X ++ [x])) (gr : (wi.alloc o).grownBy w' v.ownBlock) : Sm W w' Us N M R (fun r => if r = k then x else X r) v' (k + 1) := by
  have t1 : Turn (fun i => u.ownBlock = some i) wo (wi.alloc o) := ha.turn.trans (Turn.alloc wi o (F := fun i => u.ownBlock = some i)) (fun i q => Or.inl q)
  have t2 : Turn (fun i => v.ownBlock = some i) (wi.alloc o) w' := Turn.of_grown gr (fun k e => e)
  have ov : (wi.alloc o).ownsRow W.heap.size 22 1 v k ((List.range k).map X) := own_turn h.own t1 (fun g hg z => by
    obtain ⟨cur, hc⟩ := own_block h.own hg
    have hk := (h.base k u hu).1
    exact hk.ne hc (by decide) z)
  have nv : ∀ (s : List Nat) (y : Value), Str (wi.alloc o) Any y s → ∀ g, y.ownBlock = some g → ¬ v.ownBlock = some g := fun s y hy g hg z => by
    obtain ⟨cur, hc⟩ := own_block ov z
    exact hy.ne hc (by decide) hg
  have sx : Str (wi.alloc o) Any x (M k ++ R k) := ha.str.turn' (Turn.alloc wi o (F := fun _ => False)) (fun _ _ q => q)
  have sX : ∀ r, r < k → Str (wi.alloc o) Any (X r) (M r ++ R r) := fun r hr => (h.str r hr).turn' t1 (fun g hg z => h.sep r hr k u hu (by omega) g z hg)
  have sB : Lots (wi.alloc o) Us N M := fun r y hy => by
    by_cases e : r = k
    · subst e
      rw [hu] at hy
      have := Option.some.inj hy
      subst this
      exact ⟨ha.base.turn' (Turn.alloc wi o (F := fun _ => False)) (fun _ _ q => q), (h.base r _ hu).2⟩
    · exact ⟨(h.base r y hy).1.turn' t1 (fun g hg z => sep_at sp hu hy (fun q => e q.symm) g z hg), (h.base r y hy).2⟩
  refine ⟨?_, fun r hr => ?_, fun r y hy => ⟨(sB r y hy).1.turn' t2 (nv _ y (sB r y hy).1), (sB r y hy).2⟩, ?_, fun r hr r' u' hu' hne => ?_⟩
  · have e : (List.range (k + 1)).map (fun r => if r = k then x else X r) = (List.range k).map X ++ [x] := by
      rw [List.range_succ, List.map_append]
      congr 1
      · refine List.map_congr_left fun r hr => ?_
        have : r < k := by simpa using hr
        rw [if_neg (by omega)]
      · simp
    rw [e]
    exact own'
  · by_cases e : r = k
    · subst e
      simp only [if_true]
      exact sx.turn' t2 (nv _ x sx)
    · simp only [if_neg e]
      exact (sX r (by omega)).turn' t2 (nv _ _ (sX r (by omega)))
  · refine ((h.turn.trans t1 (fun i q => Or.inl ⟨u, List.mem_of_getElem? hu, q⟩))).trans t2 (fun i q => Or.inr (ov.lt i q).1)
  · by_cases e : r = k
    · subst e
      simp only [if_true]
      rcases ha.at_ with ⟨a, cap, e1, e2⟩ | hfr
      · have h1 := sep_at sp hu' hu hne
        rw [e1] at h1
        rw [e2]
        exact fun g q1 q2 => h1 g q1 (by
          cases a with
          | none => simp [Value.ownBlock] at q2
          | some p => exact q2)
      · intro g h1 h2
        have q1 := hW g ⟨u', List.mem_of_getElem? hu', h1⟩
        have q2 := hfr g h2
        have q3 := h.turn.size
        omega
    · simp only [if_neg e]
      exact h.sep r (by omega) r' u' hu' hne
end Go.Proofs.Ytlpmcdnhnhgmpaa
