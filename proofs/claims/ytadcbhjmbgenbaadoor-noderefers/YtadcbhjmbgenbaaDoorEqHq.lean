import Derived.Test.YtadcbhjmbgenbaaDoorSumMq
import Derived.DeepKeys
/-
  Two hashes that are one.
-/
namespace Go.Proofs.YtadcbhjmbgenbaaDoor
open Go.BigFrame

theorem mapM_some {α β : Type} (f : α → Option β) (g : α → β) : ∀ l : List α, (∀ x ∈ l, f x = some (g x)) → l.mapM f = some (l.map g)
  | [], _ => rfl
  | x :: l, h => by
    rw [List.mapM_cons, h x (by simp), mapM_some f g l (fun y hy => h y (by simp [hy]))]
    rfl
theorem lits26 (cs : Array Value) (f : Nat → Nat) (hs : cs.size = 32) (hc : ∀ i, i < 32 → cs[i]? = some (.int .u8 (f i))) (hf : ∀ i, f i < 256) :
    Tryd.prog.keyLits 2 31 cs.toList = some (((List.range 32).map (fun i => [Lit.int .u8 (f i)])).flatten) := by
  have c26 : Tryd.prog.cellsOf 31 = 32 := by kernel_rfl
  have c5 : Tryd.prog.cellsOf 5 = 1 := by kernel_rfl
  unfold Program.keyLits
  rw [Tryd.underlying31]
  simp only [Array.length_toList, hs, c26, if_true]
  rw [mapM_some _ (fun i => [Lit.int .u8 (f i)]) (List.range 32) ?_]
  · rfl
  · intro i hi
    have hi' : i < 32 := by simpa using hi
    have e : (cs.toList.drop (i * Tryd.prog.cellsOf 5)).take (Tryd.prog.cellsOf 5) = [.int .u8 (f i)] := by
      rw [c5, Nat.mul_one]
      have h2 := hc i hi'
      rw [Array.getElem?_eq_getElem (by omega)] at h2
      rw [List.drop_eq_getElem_cons (by simp; omega)]
      simp only [List.take_succ_cons, List.take_zero, Array.getElem_toList]
      rw [Option.some.inj h2]
    rw [e]
    unfold Program.keyLits
    rw [Tryd.underlying5]
    have wf : (Lit.int .u8 (f i)).wf = true := by
      have := hf i
      simp [Lit.wf, IntKind.min, IntKind.max, IntKind.bits, IntKind.signed]
      omega
    simp only [wf, and_self, if_true]
theorem eq_hash (w : World) (cs : Array Value) (f : Nat → Nat) (hs : cs.size = 32) (hc : ∀ i, i < 32 → cs[i]? = some (.int .u8 (f i))) (hf : ∀ i, f i < 256) :
    (Op.equalIn 10000 31 (.agg cs) (.agg cs)).run Tryd.prog w = .ok true w := by
  have K : Tryd.prog.keyTypeAt 2 31 = true := by kernel_rfl
  have c26 : Tryd.prog.cellsOf 31 = 32 := by kernel_rfl
  have fm : (Value.agg cs).formed Tryd.prog 31 = true := by
    unfold Value.formed
    rw [Tryd.underlying31, c26]
    show (cs.size == 32) = true
    rw [hs]
    rfl
  have kl := lits26 cs f hs hc hf
  obtain ⟨r, hr, hiff⟩ := run_equalIn_deep 9998 2 31 K w 2 2 (.agg cs) (.agg cs) _ _ fm fm kl kl
  rw [hiff.2 rfl] at hr
  exact hr
theorem eq_hashA (w : World) (s : W8) : (Op.equalIn 10000 31 (.agg (hashA s)) (.agg (hashA s))).run Tryd.prog w = .ok true w :=
  eq_hash w _ (hb s) (hashA_size s) (hashA_cell s) (fun _ => Nat.mod_lt _ (by decide))
theorem eq_Z32 (w : World) : (Op.equalIn 10000 31 (.agg Z32) (.agg Z32)).run Tryd.prog w = .ok true w :=
  eq_hash w _ (fun _ => 0) rfl (fun i hi => by rw [Z32_rep, Array.getElem?_replicate, if_pos hi]; rfl) (fun _ => by decide)

section
variable {P : Program}
theorem wpList_load_cells_g {ops : Array Oper} {rest : List Oper} {o : Oper} {a : Act} {w : World} {Q : Exit → Act → World → Prop} (hgd : Region.wanted o (yielded ops a.tmps) = true) (ty : TypeId) (x : Operand) (ho : o.op = .load ty x)
    (g : Nat) (hx : a.eval x = .pointer (some ⟨g, 0, none⟩)) (cs : Array Value) (d : TypeDesc) (hc : ∀ j, j < cs.size → w.cell? ⟨g, j, none⟩ = cs[j]?)
    (hu : P.underlying ty = some d) (hd : (match d with | .struct _ | .array _ _ => true | _ => false) = true) (hi : (P.info? ty).map (·.size) = some cs.size)
    (h : wpList P ops Q rest (a.put o.dst (.agg cs)) w) : wpList P ops Q (o :: rest) a w := by
  refine wpList_want hgd fun K hK => ?_
  unfold Oper.wp execOp
  simp only [ho, hx, Instr.loadAt, Instr.sureAddr, Sem.run_bind, Sem.run_pure, Result.andThen_ok, run_loadVar_cells w g ty cs d hc hu hd hi]
  exact hK _ _ h
end
end Go.Proofs.YtadcbhjmbgenbaaDoor
