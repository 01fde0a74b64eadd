import Derived.Test.YthndmkhdcgdloaaGreatDoorGnq
import Derived.Test.YthndmkhdcgdloaaGreatDoorTkq
import Derived.Laws.OwnMore
/-
  GrowNone: Delete, the law's book, the law.
-/
namespace Go.Proofs.YthndmkhdcgdloaaGreatDoor
open Go.RowKit Go.Maps
set_option maxRecDepth 100000 in
set_option maxHeartbeats 1600000 in
theorem gdel_nil (w : World) (cs : List Value) (hc : Hc cs) (ka : Option Addr) (kn kc : Nat) : Calls Tryz.prog 13 #[.pointer none, .agg cs.toArray, .slice ka kn kc] w fun e w' => ∃ u : List Value, e = .returned (.tuple #[.agg u.toArray, .int .i64 1]) ∧ Hc u ∧ Below w.heap.size w w' := by
  obtain ⟨zz, hl, hz, hb⟩ := zed
  obtain ⟨W, eW⟩ : ∃ W, W = (w.alloc (.cells cs.toArray 24)).alloc (.cells zz.toArray 24) := ⟨_, rfl⟩
  have g0 : W.rangeAt w.heap.size 0 cs := by
    rw [eW]
    exact rng_row ((heap_alloc_old _ _ (by simp)).trans (heap_alloc_new _ _))
  have g1 : W.heap[w.heap.size + 1]? = some (.cells zz.toArray 24 (0, 0)) := by
    rw [eW]
    have := heap_alloc_new (w.alloc (.cells cs.toArray 24)) (.cells zz.toArray 24)
    simpa using this
  have B : Hid (Below w.heap.size w W) := by
    rw [eW]
    exact nch (nal _ _) (nal _ _)
  have HE : Hid (W = (w.alloc (.cells cs.toArray 24)).alloc (.cells zz.toArray 24)) := eW
  clear eW
  go_enter Tryz.func13, Tryz.ntmps13
  go_wp2_with (first
    | (rw [← HE.out]; refine wpList_load_mid_g (by kernel_rfl) 24 _ (by rfl) w.heap.size 0 (by rfl) cs _ g0 Tryz.underlying24 rfl (by rw [hc.len]; exact iH) ?_)
    | (go_at_call 14; refine (gapply_nil _ cs _).mono ?_; rintro _ w2 ⟨u, rfl, hu, b2⟩; have b3 : Below W.heap.size W w2 := nch (nal _ _) b2; have g2 := (b3.block _ (Array.getElem?_eq_some_iff.1 g1).1).trans g1; have H2 : Hid (Hc u ∧ Below w.heap.size w w2 ∧ w2.heap[w.heap.size + 1]? = some (.cells zz.toArray 24 (0, 0))) := ⟨hu, nch B.out b3, g2⟩; clear b2 b3 hu)
    | refine wpList_stB (by kernel_rfl) 24 _ _ (by rfl) (w.heap.size + 1) u zz (by rw [H2.out.1.len]; exact iH) (by rw [H2.out.1.len, hl.len]) H2.out.1.one g2 (by rfl) (by rfl) ?_)
  refine bodyPost_ret (resCT rfl _ _ (w.heap.size + 1) _ _ rfl rfl (ldH (cs := u) (rng_row (setRow_heap _ _ _ _ _ _ H2.out.2.2)) H2.out.1)) rfl ⟨u, rfl, H2.out.1, below_setRow H2.out.2.1 (by omega) _⟩
theorem infoB : (Tryz.prog.info? 5).map (fun i => (i.zero, i.size, i.bytes)) = some (some (.int .u8 0), 1, 1) := by kernel_rfl
theorem mkB (n : Nat) (hn : n ≤ 1000) (u : World) : (Instr.makeSlice 36 (.int .i64 (n : Nat)) (.int .i64 (n : Nat))).run Tryz.prog u = .ok (.slice (some ⟨u.heap.size, 0, none⟩) n n) (u.alloc (.cells (madeCells #[.int .u8 0] n) 5)) := by
  have := run_make_row' (P := Tryz.prog) 36 5 (.int .u8 0) 1 Tryz.underlying36 infoB rfl .i64 .i64 n (by omega) (by omega) (w := u)
  simpa using this
theorem Z.r_mk {ops : Array Oper} {o : Oper} {a : Act} {Q : Exit → Act → World → Prop} {w : World} {K : Act → World → Prop} {E : Prop} {x y : Operand} (n : Nat) (hn : n ≤ 1000) (h : K (a.put o.dst (.slice (some ⟨w.heap.size, 0, none⟩) n n)) (w.alloc (.cells (madeCells #[.int .u8 0] n) 5))) (ho : o.op = .makeSlice 36 x y := by rfl) (hx : a.eval x = .int .i64 (n : Nat) := by rfl) (hy : a.eval y = .int .i64 (n : Nat) := by rfl) (hw : Region.wanted o (yielded ops a.tmps) = true := by kernel_rfl) :
    if Region.wanted o (yielded ops a.tmps) = true then Oper.wp Tryz.prog o a w K Q else E := by
  refine Z.r_val _ _ ?_ h hw
  have hm := mkB n hn w
  unfold execOp
  simp only [ho, hx, hy, Sem.run_bind, hm, Result.andThen_ok]
  rfl
theorem made32 : madeCells #[.int .u8 0] 32 = z32v.toArray := by kernel_rfl
theorem z32v_at {w : World} {b : Nat} {t : TypeId} (h : w.heap[b]? = some (.cells z32v.toArray t (0, 0))) : ∀ j v, z32v[j]? = some v → w.cell? ((⟨b, 0, none⟩ : Addr).add j) = some v := fun j v hv => by
  rw [Go.WideShapes.add_plain]
  exact rng_row h j v hv
set_option maxRecDepth 100000 in
set_option maxHeartbeats 1600000 in
theorem gbook (w : World) : Calls Tryz.prog 10 #[.int .i64 256] w fun e w' => ∃ sb, e = .returned (.pointer (some ⟨sb, 0, none⟩)) ∧ Below w.heap.size w w' := by
  have K := newbook (w.alloc (.cells z32v.toArray 5)) 256 256 w.heap.size 32 (by omega) (by omega) (z32v_at (heap_alloc_new _ _)) (by simp)
  have mk : ∀ u : World, (Instr.makeSlice 36 (.int .i64 32) (.int .i64 32)).run Tryz.prog u = .ok (.slice (some ⟨u.heap.size, 0, none⟩) 32 32) (u.alloc (.cells z32v.toArray 5)) := fun u => by
    have := mkB 32 (by omega) u
    rw [made32] at this
    exact this
  go_enter Tryz.func10, Tryz.ntmps10
  go_wp2_with (first
    | (go_at_call 33; go_loud (refine K.mono ?_; rintro _ w2 ⟨sb, rfl, b2⟩; have H2 : Hid (Below w.heap.size w w2) := nch (nal _ _) b2; clear b2))
    | (go_at_call 20; refine (gnum _ _).mono ?_; rintro _ w3 ⟨rfl, h3⟩; have h4 := h3.symm; subst h4))
  go_ret
  exact ⟨_, rfl, H2.out⟩
end Go.Proofs.YthndmkhdcgdloaaGreatDoor
