import Derived.Test.YtddpcoglbmlgcaaGreatDoorKazz
/-
  SpanNames: a piece, reckoned.
-/
namespace Go.Proofs.YtddpcoglbmlgcaaGreatDoor
open Go Go.Ev
set_option maxRecDepth 1000000 in
theorem ok0 : ck0.ok Tryz.prog hk1 400 = true := by kernel_rfl
end Go.Proofs.YtddpcoglbmlgcaaGreatDoor
/-
  SpanNames: the whole.
-/
namespace Go.Proofs.YtddpcoglbmlgcaaGreatDoor
open Go Go.Ev Go.RowKit
theorem hk1_ok {N : Nat} : HookOk N Tryz.prog hk1 := hooksX_ok
theorem hk0_ok {N : Nat} : HookOk N Tryz.prog hk0 := by
  refine ckHook_ok Dg.mixed hooksX_ok fun c hc => ?_
  rcases List.mem_cons.1 hc with rfl | hc
  · exact ⟨hk1, 400, hk1_ok, ok0⟩
  cases hc
set_option maxRecDepth 1000000 in
theorem whole : isT (run Tryz.prog hk0 400 (.call 3 []) (.mk (tables Dg.tabs) 1000 .nil)) = true := by kernel_rfl
theorem law_any (W : World) (ht : ∀ p ∈ Dg.tabs, p.1 < 1000 ∧ ∃ c t fr, W.heap[p.1]? = some (.cells c t fr) ∧ ∀ (i : Nat) (v : Value), p.2[i]? = some v → c[i]? = some v ∧ plain 1 v = true) :
    Calls Tryz.prog 3 #[] W fun e W' => e = .returned (.bool true) ∧ Below W.heap.size W W' :=
  closed Dg.mixed hk0_ok ht whole
end Go.Proofs.YtddpcoglbmlgcaaGreatDoor
/-
  SpanNames: the row and the card.
-/
namespace Go.Proofs.YtddpcoglbmlgcaaGreatDoor
open Go.ChangeShapes Go.WideShapes Go.ChangeAt Go.RowKit
namespace spanNames
open Go.ChangeShapes Go.WideShapes Go.ChangeAt Go.RowKit
theorem contract (H : Type) (enc : TypeId × Value → H) (W : World) (args : Array Value) (ds gs : List (DataW H)) (before : List MemPlace)
    (hW : DataW.Whole enc Tryz.prog Tryz.f3.params.toList Rows.spanNamesSpec.vars false W args.toList ds gs before) (hL : laidMetH Tryz.prog Rows.spanNamesRow.laid W) :
    Calls Tryz.prog 3 args W fun e W' => ∃ v, e = .returned v ∧ Rows.spanNamesSpec.post enc Tryz.prog Tryz.f3 false true false false W args v W' := by
  have hW' := hW
  obtain ⟨p, q, hA0, hV, rfl, hfz, hnd⟩ := hW
  have hA : DataW.TrodAll enc Tryz.prog W 0 (fun _ => true) true Tryz.f3.params.toList args.toList ds p := hA0
  rw [Tryz.params3] at hA
  obtain ⟨hargs, rfl, rfl⟩ := trodAll_nil hA
  obtain rfl : args = #[] := by cases args; simp_all
  obtain ⟨rfl, rfl⟩ := trodVars_none hV
  clear hA0
  simp only [List.append_nil] at hW'
  refine (law_any W (Dg.tabs_met (l := Rows.spanNamesRow.laid) hL (.tail _ (.head _)) (.tail _ (.tail _ (.head _))) (.head _))).mono fun e W' ⟨he, hg⟩ => ?_
  subst he
  exact ⟨_, rfl, _, _, _, [], [], [], hW', trodAll_cons_mk (shut_bool Tryz.underlying4 _) trodAll_mk0, trodAll_mk0, rfl, hg.frame _, fun h => by cases h⟩
theorem laid_met (os : Os) {V : World} (h : Dg.LaidIs os V) : laidMet Tryz.prog Rows.spanNamesRow.laid (V.forCall (fun _ _ => 0) ⟨#[], #[], []⟩).memory := by
  subst h
  exact laidMet_of_run' 8 (by kernel_rfl) (by kernel_rfl)
theorem reads (os : Os) {V : World} (h : Dg.LaidIs os V) {H : Type} (enc : TypeId × Value → H) : ∃ places, DataW.whole enc Tryz.prog (V.forCall (fun _ _ => 0) ⟨#[], #[], []⟩).memory Tryz.f3.params.toList Rows.spanNamesSpec.vars false (#[] : Array Value).toList 8 = some ([], [], places) := by
  subst h
  exact ⟨[], by kernel_rfl⟩
set_option maxRecDepth 100000 in
theorem lifted (os : Os) (started : os.Started) (H : Type) (enc : TypeId × Value → H) (F : Stop.Interp) :
    ReturnsInHanded {} Tryz.checked os 3 .any ((OpenSpec.ofChange Rows.spanNamesSpec).preRow enc Tryz.prog Tryz.f3 Rows.spanNamesRow.domain false Rows.spanNamesRow.laid) (((OpenSpec.ofChange Rows.spanNamesSpec).at F).post enc Tryz.prog Tryz.f3 false true false false) := by
  obtain ⟨places, hx⟩ := reads os rfl enc
  refine returnsInHanded_of_row (C := Tryz.checked) (s := OpenSpec.ofChange Rows.spanNamesSpec) Dg.own started (by kernel_rfl) Tryz.func3
    (witness_row_at (enc := enc) (C := Tryz.checked) false _ #[] rfl (by kernel_rfl) (by kernel_rfl) (by kernel_rfl)
      (OpenSpec.preRow_of_cond 8 hx (by kernel_rfl) (fun k hk => by cases hk) (by kernel_rfl) (laid_met os rfl))) ?_
  intro W base args ds gs before hval hW _ _ _ hL _ _
  exact contract H enc W args ds gs before hW hL
set_option maxRecDepth 100000
theorem f1 : Tryz.pinned.checked.prog.inPlace 3 = Rows.spanNamesRow.inPlace := by kernel_rfl
theorem f2 : Tryz.pinned.checked.prog.unfollowed 3 = Rows.spanNamesRow.unfollowed := by kernel_rfl
theorem f3 : Tryz.pinned.checked.prog.recurses 3 = Rows.spanNamesRow.recurses := by kernel_rfl
theorem f4 : Tryz.pinned.checked.prog.varsNamed 3 = Rows.spanNamesRow.named := by kernel_rfl
theorem facts : joinedFacts Tryz.pinned.checked.prog 3 Tryz.f3 (OpenSpec.ofChange Rows.spanNamesSpec).bare Rows.spanNamesRow = true := by
  unfold joinedFacts
  rw [f1, f2, f3, f4]
  kernel_rfl
theorem said : Rows.SpanNamesSaid :=
  OpenClaim.holds_of_cond 3 Tryz.f3 rfl rfl rfl rfl rfl rfl rfl ⟨rfl, rfl, rfl, rfl, rfl⟩ rfl rfl rfl rfl rfl (by kernel_rfl) Tryz.func3 facts
    (of_decide_eq_true (by kernel_rfl)) (by unfold Func.isWrapper; first | (rw [if_pos (by decide +kernel)]; kernel_rfl) | (rw [if_neg (by decide +kernel)]; exact ⟨rfl, rfl⟩))
    (fun os started H enc _ F => by rw [OpenClaim.pre_eq_preRow]; exact lifted os started H enc F)
theorem plain (f : FuncId) (fn : Func) (hf : Tryz.pinned.checked.prog.funcNamed "cairn/cairnlaw17.SpanNames" = some f) (hfn : Tryz.pinned.checked.prog.funcs[f]? = some fn) :
    true = Tryz.pinned.checked.prog.looks [] ∧ ∀ (j : Nat) t, fn.params[j]? = some t → Tryz.pinned.checked.prog.wantsStandIn t = false := by
  obtain rfl : f = 3 := Option.some.inj ((show Tryz.prog.funcNamed "cairn/cairnlaw17.SpanNames" = some 3 by kernel_rfl).symm.trans hf) |>.symm
  obtain rfl : fn = Tryz.f3 := (Option.some.inj (Tryz.func3.symm.trans hfn)).symm
  refine ⟨by kernel_rfl, fun j t ht => ?_⟩
  rw [Tryz.params3] at ht
  simp at ht
theorem card : Rows.SpanNamesCardSaid :=
  Claim7.holds_tied_plain_at .later [] _ _ _ _ said (fun _ h => by cases h) (by kernel_rfl) (fun _ h => by cases h) spanNames_row_tie rfl ⟨rfl, rfl⟩ (by kernel_rfl) rfl plain (by kernel_rfl)
end spanNames
theorem spanNames_holds : Rows.SpanNamesCardSaid := spanNames.card
end Go.Proofs.YtddpcoglbmlgcaaGreatDoor
