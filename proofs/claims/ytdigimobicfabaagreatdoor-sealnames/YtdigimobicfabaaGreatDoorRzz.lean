import Derived.Test.YtdigimobicfabaaGreatDoorKmzz
/-
  SealNames: the row and the card.
-/
namespace Go.Proofs.YtdigimobicfabaaGreatDoor
open Go.ChangeShapes Go.WideShapes Go.ChangeAt Go.RowKit
namespace sealNames
open Go.ChangeShapes Go.WideShapes Go.ChangeAt Go.RowKit
theorem et : Tryz.prog.globalNamed "errors.errorType" = some 0 := by kernel_rfl
theorem rt : (Tryz.prog.cutTypes.find? (·.1 == "internal/reflectlite.rtype")).map (·.2) = some 308 := by kernel_rfl
theorem oneRow : ((List.range 508).filter fun t => Tryz.prog.rowNamed t [101, 114, 114, 111, 114]) = [99] := by kernel_rfl
theorem tsize : Tryz.prog.types.size = 508 := by kernel_rfl
theorem handle_of_laid {W : World} (h : handlesMet Tryz.prog [("errors.errorType", Rows.laid_errors_errorType)] W) : W.cell? ⟨0, 0, none⟩ = some (.iface 308 (.agg #[.pointer (some ⟨6, 99, none⟩)])) := by
  obtain ⟨name, u, ty, e1, e2, e3, e4, e5⟩ := h _ (List.mem_singleton.2 rfl)
  have en : name = [101, 114, 114, 111, 114] := (Option.some.inj e1).symm
  subst en
  obtain rfl := Option.some.inj (rt.symm.trans e2)
  have hm : ty ∈ (List.range 508).filter fun t => Tryz.prog.rowNamed t [101, 114, 114, 111, 114] := List.mem_filter.2 ⟨List.mem_range.2 (by rw [← tsize]; exact e3), e4⟩
  rw [oneRow] at hm
  obtain rfl := List.mem_singleton.1 hm
  have hh : typeHandle Tryz.prog 99 = .pointer (some ⟨6, 99, none⟩) := by kernel_rfl
  rw [hh] at e5
  simpa using World.var?_cell et e5 0
theorem contract (H : Type) (enc : TypeId × Value → H) (W : World) (args : Array Value) (ds gs : List (DataW H)) (before : List MemPlace)
    (hW : DataW.Whole enc Tryz.prog Tryz.f3.params.toList Rows.sealNamesSpec.vars false W args.toList ds gs before) (hL : laidMetH Tryz.prog Rows.sealNamesRow.laid W) :
    Calls Tryz.prog 3 args W fun e W' => ∃ v, e = .returned v ∧ Rows.sealNamesSpec.post enc Tryz.prog Tryz.f3 false true false false W args v W' := by
  have hW' := hW
  obtain ⟨p, q, hA0, hV, rfl, hfz, hnd⟩ := hW
  have hA : DataW.TrodAll enc Tryz.prog W 0 (fun _ => true) true Tryz.f3.params.toList args.toList ds p := hA0
  rw [Tryz.params3] at hA
  obtain ⟨hargs, rfl, rfl⟩ := trodAll_nil hA
  obtain rfl : args = #[] := by cases args; simp_all
  obtain ⟨rfl, rfl⟩ := trodVars_none hV
  clear hA0
  simp only [List.append_nil] at hW'
  have h' : laidMet Tryz.prog [("cairn/sha.first", Rows.laid_cairn_sha_first), ("cairn/sha.roots", Rows.laid_cairn_sha_roots), ("cairn/journal.kinds", Rows.laid_cairn_journal_kinds)] W ∧ handlesMet Tryz.prog [("errors.errorType", Rows.laid_errors_errorType)] W := hL
  have hh := handle_of_laid h'.2
  have hT := Dg.tabs_met (l := [("cairn/sha.first", Rows.laid_cairn_sha_first), ("cairn/sha.roots", Rows.laid_cairn_sha_roots), ("cairn/journal.kinds", Rows.laid_cairn_journal_kinds)]) h'.1 (.tail _ (.tail _ (.head _))) (.head _) (.tail _ (.head _))
  refine (law_any W (fun p hp => ?_)).mono fun e W' ⟨he, hg⟩ => ?_
  · rcases List.mem_cons.1 hp with rfl | hp
    · refine ⟨by decide, ?_⟩
      unfold World.cell? at hh
      split at hh
      case h_2 => cases hh
      rename_i c t fr hw
      refine ⟨c, t, fr, hw, fun i v hv => ?_⟩
      match i with
      | 0 => cases hv; exact ⟨hh, .inr rfl⟩
      | i + 1 => cases hv
    · obtain ⟨h1, c, t, fr, h2, h3⟩ := hT p hp
      exact ⟨h1, c, t, fr, h2, fun i v hv => ⟨(h3 i v hv).1, .inl (h3 i v hv).2⟩⟩
  subst he
  exact ⟨_, rfl, _, _, _, [], [], [], hW', trodAll_cons_mk (shut_bool Tryz.underlying4 _) trodAll_mk0, trodAll_mk0, rfl, hg.frame _, fun h => by cases h⟩
theorem laid_met (os : Os) {V : World} (h : Dg.LaidIs os V) : laidMetH Tryz.prog Rows.sealNamesRow.laid (V.forCall (fun _ _ => 0) ⟨#[], #[], []⟩).memory := by
  subst h
  exact laidMetH_of_parts (laidMet_of_run' 8 (by kernel_rfl) (by kernel_rfl)) (by kernel_rfl)
theorem reads (os : Os) {V : World} (h : Dg.LaidIs os V) {H : Type} (enc : TypeId × Value → H) : ∃ places, DataW.whole enc Tryz.prog (V.forCall (fun _ _ => 0) ⟨#[], #[], []⟩).memory Tryz.f3.params.toList Rows.sealNamesSpec.vars false (#[] : Array Value).toList 8 = some ([], [], places) := by
  subst h
  exact ⟨[], by kernel_rfl⟩
set_option maxRecDepth 100000 in
theorem lifted (os : Os) (started : os.Started) (H : Type) (enc : TypeId × Value → H) (F : Stop.Interp) :
    ReturnsInHanded {} Tryz.checked os 3 .any ((OpenSpec.ofChange Rows.sealNamesSpec).preRow enc Tryz.prog Tryz.f3 Rows.sealNamesRow.domain false Rows.sealNamesRow.laid) (((OpenSpec.ofChange Rows.sealNamesSpec).at F).post enc Tryz.prog Tryz.f3 false true false false) := by
  obtain ⟨places, hx⟩ := reads os rfl enc
  refine returnsInHanded_of_row (C := Tryz.checked) (s := OpenSpec.ofChange Rows.sealNamesSpec) Dg.own started (by kernel_rfl) Tryz.func3
    (witness_row_at (enc := enc) (C := Tryz.checked) false _ #[] rfl (by kernel_rfl) (by kernel_rfl) (by kernel_rfl)
      (OpenSpec.preRow_of_cond 8 hx (by kernel_rfl) (fun k hk => by cases hk) (by kernel_rfl) (laid_met os rfl))) ?_
  intro W base args ds gs before hval hW _ _ _ hL _ _
  exact contract H enc W args ds gs before hW hL
set_option maxRecDepth 100000
theorem f1 : Tryz.pinned.checked.prog.inPlace 3 = Rows.sealNamesRow.inPlace := by kernel_rfl
theorem f2 : Tryz.pinned.checked.prog.unfollowed 3 = Rows.sealNamesRow.unfollowed := by kernel_rfl
theorem f3 : Tryz.pinned.checked.prog.recurses 3 = Rows.sealNamesRow.recurses := by kernel_rfl
theorem f4 : Tryz.pinned.checked.prog.varsNamed 3 = Rows.sealNamesRow.named := by kernel_rfl
theorem facts : joinedFacts Tryz.pinned.checked.prog 3 Tryz.f3 (OpenSpec.ofChange Rows.sealNamesSpec).bare Rows.sealNamesRow = true := by
  unfold joinedFacts
  rw [f1, f2, f3, f4]
  kernel_rfl
theorem said : Rows.SealNamesSaid :=
  OpenClaim.holds_of_cond 3 Tryz.f3 rfl rfl rfl rfl rfl rfl rfl ⟨rfl, rfl, rfl, rfl, rfl⟩ rfl rfl rfl rfl rfl (by kernel_rfl) Tryz.func3 facts
    (of_decide_eq_true (by kernel_rfl)) (by unfold Func.isWrapper; first | (rw [if_pos (by decide +kernel)]; kernel_rfl) | (rw [if_neg (by decide +kernel)]; exact ⟨rfl, rfl⟩))
    (fun os started H enc _ F => by rw [OpenClaim.pre_eq_preRow]; exact lifted os started H enc F)
theorem plain (f : FuncId) (fn : Func) (hf : Tryz.pinned.checked.prog.funcNamed "cairn/cairnlaw20.SealNames" = some f) (hfn : Tryz.pinned.checked.prog.funcs[f]? = some fn) :
    true = Tryz.pinned.checked.prog.looks [] ∧ ∀ (j : Nat) t, fn.params[j]? = some t → Tryz.pinned.checked.prog.wantsStandIn t = false := by
  obtain rfl : f = 3 := Option.some.inj ((show Tryz.prog.funcNamed "cairn/cairnlaw20.SealNames" = some 3 by kernel_rfl).symm.trans hf) |>.symm
  obtain rfl : fn = Tryz.f3 := (Option.some.inj (Tryz.func3.symm.trans hfn)).symm
  refine ⟨by kernel_rfl, fun j t ht => ?_⟩
  rw [Tryz.params3] at ht
  simp at ht
theorem card : Rows.SealNamesCardSaid :=
  Claim7.holds_tied_plain_at .later [] _ _ _ _ said (fun _ h => by cases h) (by kernel_rfl) (fun _ h => by cases h) sealNames_row_tie rfl ⟨rfl, rfl⟩ (by kernel_rfl) rfl plain (by kernel_rfl)
end sealNames
theorem sealNames_holds : Rows.SealNamesCardSaid := sealNames.card
end Go.Proofs.YtdigimobicfabaaGreatDoor
