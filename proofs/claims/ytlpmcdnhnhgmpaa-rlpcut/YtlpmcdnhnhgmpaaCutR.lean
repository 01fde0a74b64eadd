/-
  RlpCut: the row.
-/
import Derived.Test.YtlpmcdnhnhgmpaaCutL
import Derived.Test.YtlpmcdnhnhgmpaaOpI
import Derived.Test.YtlpmcdnhnhgmpaaRows
import Derived.ProofKit
import Derived.Deep.DeepHandedRow
import Derived.LaidLaws
namespace Go.Proofs.Ytlpmcdnhnhgmpaa
open Go.ChangeShapes Go.WideShapes Go.ChangeAt Go.RowKit

theorem own : ownKnob Try.prog.godebug = none := by kernel_rfl

theorem underTwo : ∃ f0 f1 : Field, Try.prog.underlying 38 = some (.struct #[f0, f1]) ∧ (f0.type = 34 ∧ f0.offset = 0) ∧ (f1.type = 34 ∧ f1.offset = 3) :=
  ⟨_, _, Try.underlying38, ⟨rfl, rfl⟩, rfl, rfl⟩
theorem cells38 : Try.prog.cellsOf 38 = 6 := by kernel_rfl
theorem open_two {H : Type} {enc : TypeId × Value → H} {W : World} {base : Nat} {v : Value} {d : DataW H} {p : List MemPlace} (hv : Value.okWide Try.prog W .any base 38 v) (h : DataW.Trod enc Try.prog W 0 (fun _ => true) true 38 v d p) (hk : ∀ n ∈ d.weights Try.prog 38, n ≤ reachBytes) :
    ∃ x xb xi y yb yi, v = .agg #[.bool x.l, xb, xi, .bool y.l, yb, yi] ∧ Lies Vb W x xb xi ∧ Lies Vb W y yb yi := by
  obtain ⟨f0, f1, hu, ⟨t0, o0⟩, t1, o1⟩ := underTwo
  obtain ⟨cs, rfl, hsz⟩ := okWide_struct hu hv
  rw [cells38] at hsz
  obtain ⟨fuel, hf⟩ := h
  simp only [Value.cells] at hf
  obtain ⟨c0, c1, c2, c3, c4, c5, hcs⟩ : ∃ c0 c1 c2 c3 c4 c5, cs.toList = [c0, c1, c2, c3, c4, c5] := by
    have : cs.toList.length = 6 := by simpa using hsz
    match cs.toList, this with
    | [c0, c1, c2, c3, c4, c5], _ => exact ⟨c0, c1, c2, c3, c4, c5, rfl⟩
  have hcs' : cs = #[c0, c1, c2, c3, c4, c5] := by cases cs; simp_all
  subst hcs'
  obtain ⟨xs, n0, _, hx, _, hlen, hg⟩ := DataW.trod_struct hu hf
  match xs, hlen with
  | [y0, y1], _ =>
    have g0 := hg 0 f0 rfl
    have g1 := hg 1 f1 rfl
    simp [t0, o0, t1, o1, cells34] at g0 g1
    simp only [Prod.mk.injEq] at hx
    have hw : DataW.weightsEach Try.prog [34, 34] [y0.1, y1.1] = d.weights Try.prog 38 := by
      rw [hx.1]
      simp only [DataW.weights, hu, List.map_cons, List.map_nil, t0, t1]
    obtain ⟨x, xb, xi, ex, hX⟩ := open_item n0 [c0, c1, c2] y0.1 y0.2 g0 (fun n hn => hk n (by
      rw [← hw]
      simp only [DataW.weightsEach]
      exact List.mem_append_left _ hn))
    obtain ⟨y, yb, yi, ey, hY⟩ := open_item n0 [c3, c4, c5] y1.1 y1.2 g1 (fun n hn => hk n (by
      rw [← hw]
      simp only [DataW.weightsEach]
      exact List.mem_append_right _ (List.mem_append_left _ hn)))
    simp only [List.cons.injEq, and_true] at ex ey
    obtain ⟨rfl, rfl, rfl⟩ := ex
    obtain ⟨rfl, rfl, rfl⟩ := ey
    exact ⟨x, _, _, y, _, _, rfl, hX, hY⟩

namespace rlpCut
set_option maxRecDepth 100000 in
theorem contract (H : Type) (enc : TypeId × Value → H) (W : World) (base : Nat) (args : Array Value) (ds gs : List (DataW H)) (before : List MemPlace)
    (hval : ∀ (j : Nat) t v, Try.f4.params[j]? = some t → args[j]? = some v → Value.okWide Try.prog W .any base t v)
    (hW : DataW.Whole enc Try.prog Try.f4.params.toList Rows.rlpCutSpec.vars false W args.toList ds gs before)
    (hsz0 : (DataW.weightsEach Try.prog (Try.f4.params.toList ++ (OpenSpec.ofChange Rows.rlpCutSpec).bare.plain.varTypes Try.prog) (ds ++ gs)).all (· ≤ reachBytes) = true) :
    Calls Try.prog 4 args W fun e W' => ∃ v, e = .returned v ∧ Rows.rlpCutSpec.post enc Try.prog Try.f4 false true false false W args v W' := by
  have hW' := hW
  obtain ⟨p, q, hA0, hV, rfl, hfz, hnd⟩ := hW
  have hA : DataW.TrodAll enc Try.prog W 0 (fun _ => true) true Try.f4.params.toList args.toList ds p := hA0
  have hsz : (DataW.weightsEach Try.prog (Try.f4.params.toList ++ []) (ds ++ gs)).all (· ≤ reachBytes) = true := hsz0
  rw [Try.params4] at hA hval hsz
  obtain ⟨v0, v1, v2, d0, d1, d2, p0, p1, p2, hargs, rfl, rfl, h0, h1, h2⟩ := trodAll_three hA
  obtain rfl : args = #[v0, v1, v2] := by cases args; simp_all
  obtain ⟨rfl, rfl⟩ := trodVars_none hV
  have h0k := h0
  have h1k := h1
  have h2k := h2
  clear hA0 hsz0
  simp only [List.append_nil] at hW' hsz
  have hlt : ∀ x ∈ p0 ++ (p1 ++ p2), x.block < W.heap.size := fun x hx => by simpa using hW'.lt x (by simpa using hx)
  have hk : ∀ n ∈ DataW.weightsEach Try.prog [38, 3, 22] [d0, d1, d2], n ≤ reachBytes := fun n hn => of_decide_eq_true (List.all_eq_true.1 hsz n hn)
  obtain ⟨x, xb, xi, y, yb, yi, rfl, hx, hy⟩ := open_two (hval 0 38 v0 rfl rfl) h0 (fun n hn => hk n (by simp only [DataW.weightsEach]; exact List.mem_append_left _ hn))
  obtain ⟨at_, rfl⟩ := okWide_int Try.underlying3 (hval 1 3 v1 rfl rfl)
  obtain ⟨s, hs⟩ := open_bytesA (hval 2 22 v2 rfl rfl) h2 (fun n hn => hk n (by simp only [DataW.weightsEach]; exact List.mem_append_right _ (List.mem_append_right _ (List.mem_append_left _ hn))))
  refine (cut_any W x y xb xi yb yi hx hy at_ s v2 hs).mono fun e W' ⟨he, hg⟩ => ?_
  subst he
  exact ⟨_, rfl, _, _, _, [], _, [], hW', trodAll_cons_mk (shut_bool Try.underlying4 _) trodAll_mk0,
    trodAll_mk3 (Below.trod laidOut (by kernel_rfl) (of_decide_eq_true (by kernel_rfl)) h0k hg fun x hx => hlt x (by simp [hx])) (Below.trod laidOut (by kernel_rfl) (of_decide_eq_true (by kernel_rfl)) h1k hg fun x hx => hlt x (by simp [hx])) (Below.trod laidOut (by kernel_rfl) (of_decide_eq_true (by kernel_rfl)) h2k hg fun x hx => hlt x (by simp [hx])), rfl, hg.frame _, fun h => by cases h⟩

def LaidIs (os : Os) (V : World) : Prop := V = World.holding Try.prog os ⟨#[], #[], []⟩
theorem laid_met (os : Os) {V : World} (h : LaidIs os V) : laidMet Try.prog Rows.rlpCutRow.laid (V.forCall (fun _ _ => 0) ⟨#[], #[.agg #[.bool false, .slice none 0 0, .slice none 0 0, .bool false, .slice none 0 0, .slice none 0 0], .int .i64 0, .slice none 0 0], []⟩).memory := by
  subst h
  exact laidMet_of_run' 8 (by kernel_rfl) (by kernel_rfl)
theorem reads (os : Os) {V : World} (h : LaidIs os V) {H : Type} (enc : TypeId × Value → H) : ∃ places, DataW.whole enc Try.prog (V.forCall (fun _ _ => 0) ⟨#[], #[.agg #[.bool false, .slice none 0 0, .slice none 0 0, .bool false, .slice none 0 0, .slice none 0 0], .int .i64 0, .slice none 0 0], []⟩).memory Try.f4.params.toList Rows.rlpCutSpec.vars false (#[.agg #[.bool false, .slice none 0 0, .slice none 0 0, .bool false, .slice none 0 0, .slice none 0 0], .int .i64 0, .slice none 0 0] : Array Value).toList 8 = some ([.agg [.agg [.lit (.bool false), .nil, .nil], .agg [.lit (.bool false), .nil, .nil]], .lit (.int .i64 0), .nil], [], places) := by
  subst h
  exact ⟨[], by kernel_rfl⟩

set_option maxRecDepth 100000 in
theorem lifted (os : Os) (started : os.Started) (H : Type) (enc : TypeId × Value → H) (F : Stop.Interp) :
    ReturnsInHanded {} Try.checked os 4 .any ((OpenSpec.ofChange Rows.rlpCutSpec).preRow enc Try.prog Try.f4 Rows.rlpCutRow.domain false Rows.rlpCutRow.laid) (((OpenSpec.ofChange Rows.rlpCutSpec).at F).post enc Try.prog Try.f4 false true false false) := by
  obtain ⟨places, hx⟩ := reads os rfl enc
  refine returnsInHanded_of_row (C := Try.checked) (s := OpenSpec.ofChange Rows.rlpCutSpec) own started (by kernel_rfl) Try.func4
    (witness_row_at (enc := enc) (C := Try.checked) false _ #[.agg #[.bool false, .slice none 0 0, .slice none 0 0, .bool false, .slice none 0 0, .slice none 0 0], .int .i64 0, .slice none 0 0] rfl (by kernel_rfl) (by kernel_rfl) (by kernel_rfl)
      (OpenSpec.preRow_of_cond 8 hx (by kernel_rfl) (fun k hk => by cases hk) (by kernel_rfl) (laid_met os rfl))) ?_
  intro W base args ds gs before hval hW _ _ hsz hL _ _
  exact contract H enc W base args ds gs before hval hW hsz

theorem said : Rows.RlpCutSaid :=
  OpenClaim.holds_of_cond 4 Try.f4 rfl rfl rfl rfl rfl rfl rfl ⟨rfl, rfl, rfl, rfl, rfl⟩ rfl rfl rfl rfl rfl (by kernel_rfl) Try.func4 (by kernel_rfl)
    (of_decide_eq_true (by kernel_rfl)) (by unfold Func.isWrapper; first | (rw [if_pos (by decide +kernel)]; kernel_rfl) | (rw [if_neg (by decide +kernel)]; exact ⟨rfl, rfl⟩))
    (fun os started H enc _ F => by rw [OpenClaim.pre_eq_preRow]; exact lifted os started H enc F)
end rlpCut
theorem rlpCut_holds : Rows.RlpCutSaid := rlpCut.said
end Go.Proofs.Ytlpmcdnhnhgmpaa
