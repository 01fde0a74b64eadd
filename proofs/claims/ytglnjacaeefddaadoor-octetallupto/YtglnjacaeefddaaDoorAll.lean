/-
  OctetAll: the row (the second form), the card.
-/
import Derived.Test.YtglnjacaeefddaaDoorTwo
import Derived.Test.YtglnjacaeefddaaDoorAllW
namespace Go.Proofs.YtglnjacaeefddaaDoor
namespace octetAll
open Go.ChangeShapes Go.WideShapes Go.ChangeAt Go.RowKit

theorem bulk_pos {H : Type} (d : DataW H) : 1 ≤ Rows.uptoBulk d := by
  cases d with
  | lit l => cases l <;> simp [Rows.uptoBulk]
  | _ => simp [Rows.uptoBulk]
theorem bulk_len {H : Type} : ∀ l : List (DataW H), l.length ≤ Rows.uptoBulkAll l
  | [] => by simp [Rows.uptoBulkAll]
  | d :: r => by
    have h1 := bulk_pos d
    have h2 := bulk_len r
    simp only [Rows.uptoBulkAll, List.length_cons]
    omega
/-- a list is no longer than what it weighs -/
theorem opened_bulk {H : Type} {W : World} {a0 : Option Addr} {len cap : Nat} {d : DataW H} (h : Opened W a0 len cap d) : len ≤ Rows.uptoBulk d := by
  obtain ⟨_, _, _, _, _, _, _, h1, h2⟩ := h
  rcases h2 with ⟨_, h2⟩ | ⟨e, s, rfl, h2⟩
  · omega
  · have a1 := bulk_len e
    have a2 := bulk_len s
    simp only [Rows.uptoBulk]
    omega
theorem bulk_two {H : Type} {dA dB dF dT : DataW H} {o : Bool} {l : List UInt8} (hk : Rows.uptoSmall H [.agg [dA, dB, .agg [dF, dT, .lit (.bool o)], .lit (.string l)]] = true) :
    Rows.uptoBulk dA ≤ 1048576 ∧ Rows.uptoBulk dB ≤ 1048576 ∧ Rows.uptoBulk dF ≤ 1048576 ∧ Rows.uptoBulk dT ≤ 1048576 ∧ l.length ≤ 1048576 := by
  have h : Rows.uptoBulkAll [DataW.agg (H := H) [dA, dB, .agg [dF, dT, .lit (.bool o)], .lit (.string l)]] ≤ 1048576 := of_decide_eq_true hk
  simp only [Rows.uptoBulkAll, Rows.uptoBulk] at h
  omega

theorem contract (H : Type) (enc : TypeId × Value → H) (W : World) (base : Nat) (args : Array Value) (ds gs : List (DataW H)) (before : List MemPlace)
    (hval : ∀ (j : Nat) t v, Tryd.f6.params[j]? = some t → args[j]? = some v → Value.okWide Tryd.prog W .any base t v)
    (hW : DataW.Whole enc Tryd.prog Tryd.f6.params.toList Rows.octetAllSpec.vars false W args.toList ds gs before)
    (hk : Rows.uptoSmall H (ds ++ gs) = true)
    (hL : laidMetH Tryd.prog Rows.octetAllUptoRow.laid W) :
    Calls Tryd.prog 6 args W fun e W' => ∃ v, e = .returned v ∧ Rows.octetAllSpec.post enc Tryd.prog Tryd.f6 false true false false W args v W' := by
  have hW' := hW
  obtain ⟨p, q, hA0, hV, rfl, hfz, hnd⟩ := hW
  have hA : DataW.TrodAll enc Tryd.prog W 0 (fun _ => true) true Tryd.f6.params.toList args.toList ds p := hA0
  rw [Tryd.params6] at hA hval
  obtain ⟨v0, vs0, d0, ds0, p0, q0, hargs, rfl, rfl, h0, r0⟩ := trodAll_cons hA
  obtain ⟨rfl, rfl, rfl⟩ := trodAll_nil r0
  obtain rfl : args = #[v0] := by cases args; simp_all
  obtain ⟨rfl, rfl⟩ := trodVars_none hV
  have h0k := h0
  obtain ⟨a, b, f, t, n, ca, m, cb, nf, fc, nt, tc, o, s, dA, dB, dF, dT, rfl, rfl, oA, oB, oF, oT⟩ := open_two (hval 0 31 v0 rfl rfl) h0
  clear hA0
  simp only [List.append_nil] at hW' hk
  have hlt : ∀ x ∈ p0, x.block < W.heap.size := fun x hx => by simpa using hW'.lt x (by simpa using hx)
  obtain ⟨kA, kB, kF, kT, kS⟩ := bulk_two hk
  have ln := opened_bulk oA
  have lm := opened_bulk oB
  have lf := opened_bulk oF
  have lt := opened_bulk oT
  have ls : s.size ≤ 1048576 := by
    have e : s.data.toList.length = s.size := by rw [Array.length_toList]; rfl
    omega
  obtain ⟨ab, ao, A, vA, _⟩ := oA.view (by omega)
  obtain ⟨bb, bo, B, vB, _⟩ := oB.view (by omega)
  obtain ⟨fb, fo, F, vF, _⟩ := oF.view (by omega)
  obtain ⟨tb, to, T, vT, _⟩ := oT.view (by omega)
  refine (all_walk W a b f t ab ao n ca bb bo m cb fb fo nf fc tb to nt tc o s A B F T (table hL) vA vB vF vT oA.1 oB.1 oF.1 oT.1 (by omega) (by omega) (by omega) (by omega) ls).mono fun e W' ⟨he, hg⟩ => ?_
  subst he
  refine ⟨_, rfl, _, _, _, [], _, [], hW', trodAll_cons_mk (shut_bool Tryd.underlying4 _) trodAll_mk0,
    trodAll_mk1 (Below.trod laidOut (by kernel_rfl) (of_decide_eq_true (by kernel_rfl)) h0k hg hlt), rfl, hg.frame _, fun h => by cases h⟩

theorem laid_met (os : Os) {V : World} (h : LaidIs os V) : laidMet Tryd.prog Rows.octetAllUptoRow.laid (V.forCall (fun _ _ => 0) ⟨#[], #[.agg #[.slice none 0 0, .slice none 0 0, .slice none 0 0, .slice none 0 0, .bool false, .string .empty]], []⟩).memory := by
  subst h
  exact laidMet_of_run' 8 (by kernel_rfl) (by kernel_rfl)
theorem reads (os : Os) {V : World} (h : LaidIs os V) {H : Type} (enc : TypeId × Value → H) : ∃ places, DataW.whole enc Tryd.prog (V.forCall (fun _ _ => 0) ⟨#[], #[.agg #[.slice none 0 0, .slice none 0 0, .slice none 0 0, .slice none 0 0, .bool false, .string .empty]], []⟩).memory Tryd.f6.params.toList Rows.octetAllSpec.vars false (#[.agg #[.slice none 0 0, .slice none 0 0, .slice none 0 0, .slice none 0 0, .bool false, .string .empty]] : Array Value).toList 8 = some ([.agg [.nil, .nil, .agg [.nil, .nil, .lit (.bool false)], .lit (.string [])]], [], places) := by
  subst h
  exact ⟨[], by kernel_rfl⟩

set_option maxRecDepth 100000 in
theorem lifted (os : Os) (started : os.Started) (H : Type) (enc : TypeId × Value → H) (F : Stop.Interp) :
    ReturnsInHanded {} Tryd.checked os 6 .any ((Rows.OpenSpec.upto Rows.octetAllSpec).preRow enc Tryd.prog Tryd.f6 Rows.octetAllUptoRow.domain false Rows.octetAllUptoRow.laid) (((Rows.OpenSpec.upto Rows.octetAllSpec).at F).post enc Tryd.prog Tryd.f6 false true false false) := by
  obtain ⟨places, hx⟩ := reads os rfl enc
  refine returnsInHanded_of_row (C := Tryd.checked) (s := Rows.OpenSpec.upto Rows.octetAllSpec) own started (by kernel_rfl) Tryd.func6
    (witness_row_at (enc := enc) (C := Tryd.checked) false _ #[.agg #[.slice none 0 0, .slice none 0 0, .slice none 0 0, .slice none 0 0, .bool false, .string .empty]] rfl (by kernel_rfl) (by kernel_rfl) (by kernel_rfl)
      (OpenSpec.preRow_of_cond 8 hx (by kernel_rfl) (fun k hk => by cases hk; kernel_rfl) (by kernel_rfl) (laid_met os rfl))) ?_
  intro W base args ds gs before hval hW _ hcond _ hL _ _
  exact contract H enc W base args ds gs before hval hW (hcond _ rfl) hL

theorem said : Rows.OctetAllUptoSaid :=
  OpenClaim.holds_of_cond 6 Tryd.f6 rfl rfl rfl rfl rfl rfl rfl ⟨rfl, rfl, rfl, rfl, rfl⟩ rfl rfl rfl rfl rfl (by kernel_rfl) Tryd.func6 (by kernel_rfl)
    (of_decide_eq_true (by kernel_rfl)) (by unfold Func.isWrapper; first | (rw [if_pos (by decide +kernel)]; kernel_rfl) | (rw [if_neg (by decide +kernel)]; exact ⟨rfl, rfl⟩))
    (fun os started H enc _ F => by rw [OpenClaim.pre_eq_preRow]; exact lifted os started H enc F)

theorem plain (f : FuncId) (fn : Func) (hf : Tryd.pinned.checked.prog.funcNamed "cairn/cairnlaw01.OctetAll" = some f) (hfn : Tryd.pinned.checked.prog.funcs[f]? = some fn) :
    false = Tryd.pinned.checked.prog.looks [] ∧ ∀ (j : Nat) t, fn.params[j]? = some t → Tryd.pinned.checked.prog.wantsStandIn t = false := by
  obtain rfl : f = 6 := Option.some.inj ((show Tryd.prog.funcNamed "cairn/cairnlaw01.OctetAll" = some 6 by kernel_rfl).symm.trans hf) |>.symm
  obtain rfl : fn = Tryd.f6 := (Option.some.inj (Tryd.func6.symm.trans hfn)).symm
  refine ⟨by kernel_rfl, fun j t ht => ?_⟩
  rw [Tryd.params6] at ht
  obtain rfl : t = 31 := by simpa using Array.mem_of_getElem? ht
  exact (show Tryd.prog.wantsStandIn 31 = false by kernel_rfl)

theorem card : Rows.OctetAllUptoCardSaid :=
  Claim7.holds_tied_plain_at .later [] _ _ _ _ said (fun _ h => by cases h) (by kernel_rfl) (fun _ h => by cases h) octetAllUpto_row_tie rfl ⟨rfl, rfl⟩ (by kernel_rfl) rfl plain (by kernel_rfl)

end octetAll
theorem octetAll_holds : Rows.OctetAllUptoCardSaid := octetAll.card

end Go.Proofs.YtglnjacaeefddaaDoor
