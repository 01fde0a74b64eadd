/-
  OctetOrder: the law's walk out of its eight ways, the row, the card.
-/
import Derived.Test.YtglnjacaeefddaaDoorTwo
import Derived.Test.YtglnjacaeefddaaDoorOrderC1
import Derived.Test.YtglnjacaeefddaaDoorOrderC2
import Derived.Test.YtglnjacaeefddaaDoorOrderC3
import Derived.Test.YtglnjacaeefddaaDoorOrderC4
import Derived.Test.YtglnjacaeefddaaDoorOrderC5
import Derived.Test.YtglnjacaeefddaaDoorOrderC6
import Derived.Test.YtglnjacaeefddaaDoorOrderC7
import Derived.Test.YtglnjacaeefddaaDoorOrderC8
namespace Go.Proofs.YtglnjacaeefddaaDoor
open Go.RowKit

theorem View.upto {w : World} {a : Option Addr} {b off n : Nat} {Z : Nat → Int} (h : View w a b off n Z) (K : Nat) (hK : K ≤ n) : View w a b off K Z :=
  ⟨fun h0 => h.at_ (by omega), fun i hi => h.cell i (by omega), fun i hi => h.bd i (by omega), by have := h.len; omega⟩
theorem View.nil (w : World) : View w none 0 0 0 (fun _ => 0) :=
  ⟨fun h => absurd h (by omega), fun i h => absurd h (by omega), fun i h => absurd h (by omega), by omega⟩
theorem str_congr (n : Nat) (Z Y : Nat → Int) (h : ∀ i, i < n → Z i = Y i) : str n Z = str n Y := by
  unfold str
  congr 1
  exact List.map_congr_left fun i hi => h i (by simpa using hi)

theorem order_calls (w : World) (a b c : Option Addr) (ab ao n ca bb bo m cb cb' co l cc : Nat) (A B C : Nat → Int) (hT : Tab w)
    (ha : View w a ab ao n A) (hb : View w b bb bo m B) (hc : View w c cb' co l C) (hca : n ≤ ca) (hcb : m ≤ cb) :
    OrderCalls w a b c n ca m cb l cc A B ab ao bb bo (com A B (min n m)) (cmp n m A B) (cmp m l B C) (cmp n l A C) := by
  have hK := com_le A B (min n m)
  have hs : ∀ i, i < com A B (min n m) → A i = B i := fun i hi => com_same _ _ _ _ hi
  refine ⟨hT, fun w' h => compare_any _ _ _ _ _ _ _ _ _ _ _ _ _ (ha.below h) (hb.below h), fun w' h => compare_any _ _ _ _ _ _ _ _ _ _ _ _ _ (hb.below h) (hc.below h),
    fun w' h => compare_any _ _ _ _ _ _ _ _ _ _ _ _ _ (ha.below h) (hc.below h), fun w' h => ?_, fun w' h => ?_, fun w' h => common_any _ _ _ _ _ _ _ _ _ _ _ _ _ (ha.below h) (hb.below h),
    fun w' h => ?_, fun w' h => ?_, fun w' h => ?_, fun w' h => convert_view (ha.below h) _, fun w' h => convert_view (hb.below h) _,
    fun w' h => convert_view ((ha.below h).upto _ (by omega)) _, fun w' h => ?_, ha.len, hb.len, hca, hcb⟩
  · rw [← cmp_anti]
    exact compare_any _ _ _ _ _ _ _ _ _ _ _ _ _ (hb.below h) (ha.below h)
  · have := compare_any _ _ _ _ _ _ ca _ _ _ ca _ _ (ha.below h) (ha.below h)
    rwa [cmp_self] at this
  · have := within_any _ _ _ _ _ _ _ cc _ _ _ ca _ _ _ cb _ _ _ false (hc.below h) (ha.below h) (hb.below h)
    refine this.mono fun e w'' ⟨he, hb⟩ => ⟨?_, hb⟩
    rw [he]
    unfold wit
    have e1 := cmp_anti m l B C
    have e2 : decide (cmp l m C B < 0) = decide (0 < cmp m l B C) := by rw [decide_eq_decide]; omega
    rw [Bool.false_or, e2]
  · have := within_any _ _ _ _ _ _ _ cc _ _ _ cb _ _ _ 0 _ _ _ true (hc.below h) (hb.below h) (View.nil w')
    refine this.mono fun e w'' ⟨he, hb⟩ => ⟨?_, hb⟩
    rw [he]
    unfold wit
    rw [Bool.true_or, Bool.and_true]
  · have := within_any _ _ _ _ _ _ _ cc _ _ _ ca _ _ _ 0 _ _ _ true (hc.below h) (ha.below h) (View.nil w')
    refine this.mono fun e w'' ⟨he, hb⟩ => ⟨?_, hb⟩
    rw [he]
    unfold wit
    rw [Bool.true_or, Bool.and_true]
  · rw [str_congr _ A B hs]
    exact convert_view ((hb.below h).upto _ (by omega)) _

theorem order_walk (w : World) (a b c : Option Addr) (ab ao n ca bb bo m cb cb' co l cc : Nat) (A B C : Nat → Int) (hT : Tab w)
    (ha : View w a ab ao n A) (hb : View w b bb bo m B) (hc : View w c cb' co l C) (hca : n ≤ ca) (hcb : m ≤ cb) :
    Calls Tryd.prog 5 #[.slice a n ca, .slice b m cb, .slice c l cc] w fun e w' => e = .returned (.bool true) ∧ Below w.heap.size w w' := by
  have H := order_calls w a b c ab ao n ca bb bo m cb cb' co l cc A B C hT ha hb hc hca hcb
  have hK := com_le A B (min n m)
  have hy := cmp_bd m l B C
  have hz := cmp_bd n l A C
  have hx := cmp_range n m A B
  have htr := cmp_trans n m l A B C
  have hse := str_eq n m A B ha.bd hb.bd
  have hzero := cmp_zero_iff n m A B
  have H0 := cmp_both n m A B
  have H1 := cmp_first n m A B
  have H2 := cmp_second n m A B
  have H3 := cmp_lss n m A B
  have H4 := cmp_gtr n m A B
  have hpart := com_parts A B (min n m)
  have hsne : cmp n m A B ≠ 0 → (str n A).toList ≠ (str m B).toList := fun h e => h (hzero.2 (hse.1 e))
  generalize hKK : com A B (min n m) = K at *
  clear hKK
  by_cases e1 : K = n
  · by_cases e2 : K = m
    · have r := H0 e1 e2
      have s := hse.2 (hzero.1 r)
      rw [r] at H htr
      clear hx H0 H1 H2 H3 H4 hpart hsne hzero hse r
      subst e1
      subst e2
      by_cases hy0 : 0 < cmp K l B C
      · exact order_same1 w a b c _ _ _ _ A B ab ao bb bo K _ _ hy hz H s hy0
      · exact order_same2 w a b c _ _ _ _ A B ab ao bb bo K _ _ hy hz H s (by omega) (htr (by omega) (by omega))
    · have r := H1 e1 e2
      have s := hsne (by omega)
      rw [r] at H htr
      subst e1
      by_cases hy0 : 0 < cmp m l B C
      · exact order_first1 w a b c _ m _ _ _ A B ab ao bb bo K _ _ hy hz H s (by omega) hy0
      · exact order_first2 w a b c _ m _ _ _ A B ab ao bb bo K _ _ hy hz H s (by omega) (by omega) (htr (by omega) (by omega))
  · by_cases e2 : K = m
    · have r := H2 e1 e2
      have s := hsne (by omega)
      rw [r] at H
      subst e2
      exact order_second w a b c n _ _ _ _ A B ab ao bb bo K _ _ hy hz H s (by omega)
    · have hae := ha.at_ (by omega)
      have hbe := hb.at_ (by omega)
      have ha0 := ha.lt (by omega)
      have hb0 := hb.lt (by omega)
      have ha1 := ha.cell K (by omega)
      have hb1 := hb.cell K (by omega)
      by_cases e5 : A K < B K
      · have r := H3 e1 e2 e5
        have s := hsne (by omega)
        rw [r] at H htr
        by_cases hy0 : 0 < cmp m l B C
        · exact order_lt1 w a b c n _ m _ _ _ A B ab ao bb bo K _ _ hy hz H s (by omega) (by omega) hae hbe ha0 hb0 ha1 hb1 e5 hy0
        · exact order_lt2 w a b c n _ m _ _ _ A B ab ao bb bo K _ _ hy hz H s (by omega) (by omega) hae hbe ha0 hb0 ha1 hb1 e5 (by omega) (htr (by omega) (by omega))
      · have r := H4 e1 e2 e5
        have s := hsne (by omega)
        have e6 := hpart (by omega)
        rw [r] at H
        exact order_gt w a b c n _ m _ _ _ A B ab ao bb bo K _ _ hy hz H s (by omega) (by omega) hae hbe ha0 hb0 ha1 hb1 (by omega)

namespace octetOrder
open Go.ChangeShapes Go.WideShapes Go.ChangeAt Go.RowKit

theorem contract (H : Type) (enc : TypeId × Value → H) (W : World) (base : Nat) (args : Array Value) (ds gs : List (DataW H)) (before : List MemPlace)
    (hval : ∀ (j : Nat) t v, Tryd.f5.params[j]? = some t → args[j]? = some v → Value.okWide Tryd.prog W .any base t v)
    (hW : DataW.Whole enc Tryd.prog Tryd.f5.params.toList Rows.octetOrderSpec.vars false W args.toList ds gs before)
    (hsz0 : (DataW.weightsEach Tryd.prog (Tryd.f5.params.toList ++ (OpenSpec.ofChange Rows.octetOrderSpec).bare.plain.varTypes Tryd.prog) (ds ++ gs)).all (· ≤ reachBytes) = true)
    (hL : laidMetH Tryd.prog Rows.octetOrderRow.laid W) :
    Calls Tryd.prog 5 args W fun e W' => ∃ v, e = .returned v ∧ Rows.octetOrderSpec.post enc Tryd.prog Tryd.f5 false true false false W args v W' := by
  have hW' := hW
  obtain ⟨p, q, hA0, hV, rfl, hfz, hnd⟩ := hW
  have hA : DataW.TrodAll enc Tryd.prog W 0 (fun _ => true) true Tryd.f5.params.toList args.toList ds p := hA0
  have hsz : (DataW.weightsEach Tryd.prog (Tryd.f5.params.toList ++ []) (ds ++ gs)).all (· ≤ reachBytes) = true := hsz0
  rw [Tryd.params5] at hA hval hsz
  obtain ⟨v0, v1, v2, d0, d1, d2, p0, p1, p2, hargs, rfl, rfl, h0, h1, h2⟩ := trodAll_three hA
  obtain rfl : args = #[v0, v1, v2] := by cases args; simp_all
  obtain ⟨rfl, rfl⟩ := trodVars_none hV
  obtain ⟨a0, la, ca, rfl⟩ := okWide_slice Tryd.underlying22 (hval 0 22 v0 rfl rfl)
  obtain ⟨b0, lb, cb, rfl⟩ := okWide_slice Tryd.underlying22 (hval 1 22 v1 rfl rfl)
  obtain ⟨c0, lc, cc, rfl⟩ := okWide_slice Tryd.underlying22 (hval 2 22 v2 rfl rfl)
  have h0k := h0
  have h1k := h1
  have h2k := h2
  obtain ⟨fa, hfa⟩ := h0
  obtain ⟨fb, hfb⟩ := h1
  obtain ⟨fc, hfc⟩ := h2
  clear hA0 hsz0
  simp only [List.append_nil] at hW'
  have hlt : ∀ x ∈ p0 ++ (p1 ++ p2), x.block < W.heap.size := fun x hx => by simpa using hW'.lt x (by simpa using hx)
  obtain ⟨ab, ao, A, hA1, hA2, hA3, hA4, hA5⟩ := open_bytes (by simpa [Value.cells] using hfa)
  obtain ⟨bb, bo, B, hB1, hB2, hB3, hB4, hB5⟩ := open_bytes (by simpa [Value.cells] using hfb)
  obtain ⟨cb', co, C, hC1, hC2, hC3, hC4, hC5⟩ := open_bytes (by simpa [Value.cells] using hfc)
  have la47 := len_of hsz (j := 0) rfl rfl hA4 hA5
  have lb47 := len_of hsz (j := 1) rfl rfl hB4 hB5
  have lc47 := len_of hsz (j := 2) rfl rfl hC4 hC5
  refine (order_walk W a0 b0 c0 ab ao la ca bb bo lb cb cb' co lc cc A B C (table hL) ⟨hA1, hA2, hA3, by omega⟩ ⟨hB1, hB2, hB3, by omega⟩ ⟨hC1, hC2, hC3, by omega⟩ hA4 hB4).mono fun e W' ⟨he, hg⟩ => ?_
  subst he
  have back := fun {v : Value} {d : DataW H} {ps : List MemPlace} (h : DataW.Trod enc Tryd.prog W 0 (fun _ => true) true 22 v d ps) (hl : ∀ x ∈ ps, x.block < W.heap.size) =>
    Below.trod laidOut (by kernel_rfl) (of_decide_eq_true (by kernel_rfl)) h hg hl
  refine ⟨_, rfl, _, _, _, [], _, [], hW', trodAll_cons_mk (shut_bool Tryd.underlying4 _) trodAll_mk0,
    trodAll_mk3 (back h0k fun x hx => hlt x (by simp [hx])) (back h1k fun x hx => hlt x (by simp [hx])) (back h2k fun x hx => hlt x (by simp [hx])), rfl, hg.frame _, fun h => by cases h⟩

theorem laid_met (os : Os) {V : World} (h : LaidIs os V) : laidMet Tryd.prog Rows.octetOrderRow.laid (V.forCall (fun _ _ => 0) ⟨#[], #[.slice none 0 0, .slice none 0 0, .slice none 0 0], []⟩).memory := by
  subst h
  exact laidMet_of_run' 8 (by kernel_rfl) (by kernel_rfl)
theorem reads (os : Os) {V : World} (h : LaidIs os V) {H : Type} (enc : TypeId × Value → H) : ∃ places, DataW.whole enc Tryd.prog (V.forCall (fun _ _ => 0) ⟨#[], #[.slice none 0 0, .slice none 0 0, .slice none 0 0], []⟩).memory Tryd.f5.params.toList Rows.octetOrderSpec.vars false (#[.slice none 0 0, .slice none 0 0, .slice none 0 0] : Array Value).toList 8 = some ([.nil, .nil, .nil], [], places) := by
  subst h
  exact ⟨[], by kernel_rfl⟩

set_option maxRecDepth 100000 in
theorem lifted (os : Os) (started : os.Started) (H : Type) (enc : TypeId × Value → H) (F : Stop.Interp) :
    ReturnsInHanded {} Tryd.checked os 5 .any ((OpenSpec.ofChange Rows.octetOrderSpec).preRow enc Tryd.prog Tryd.f5 Rows.octetOrderRow.domain false Rows.octetOrderRow.laid) (((OpenSpec.ofChange Rows.octetOrderSpec).at F).post enc Tryd.prog Tryd.f5 false true false false) := by
  obtain ⟨places, hx⟩ := reads os rfl enc
  refine returnsInHanded_of_row (C := Tryd.checked) (s := OpenSpec.ofChange Rows.octetOrderSpec) own started (by kernel_rfl) Tryd.func5
    (witness_row_at (enc := enc) (C := Tryd.checked) false _ #[.slice none 0 0, .slice none 0 0, .slice none 0 0] rfl (by kernel_rfl) (by kernel_rfl) (by kernel_rfl)
      (OpenSpec.preRow_of_cond 8 hx (by kernel_rfl) (fun k hk => by cases hk) (by kernel_rfl) (laid_met os rfl))) ?_
  intro W base args ds gs before hval hW _ _ hsz hL _ _
  exact contract H enc W base args ds gs before hval hW hsz hL

theorem said : Rows.OctetOrderSaid :=
  OpenClaim.holds_of_cond 5 Tryd.f5 rfl rfl rfl rfl rfl rfl rfl ⟨rfl, rfl, rfl, rfl, rfl⟩ rfl rfl rfl rfl rfl (by kernel_rfl) Tryd.func5 (by kernel_rfl)
    (of_decide_eq_true (by kernel_rfl)) (by unfold Func.isWrapper; first | (rw [if_pos (by decide +kernel)]; kernel_rfl) | (rw [if_neg (by decide +kernel)]; exact ⟨rfl, rfl⟩))
    (fun os started H enc _ F => by rw [OpenClaim.pre_eq_preRow]; exact lifted os started H enc F)

theorem plain (f : FuncId) (fn : Func) (hf : Tryd.pinned.checked.prog.funcNamed "cairn/cairnlaw01.OctetOrder" = some f) (hfn : Tryd.pinned.checked.prog.funcs[f]? = some fn) :
    false = Tryd.pinned.checked.prog.looks [] ∧ ∀ (j : Nat) t, fn.params[j]? = some t → Tryd.pinned.checked.prog.wantsStandIn t = false := by
  obtain rfl : f = 5 := Option.some.inj ((show Tryd.prog.funcNamed "cairn/cairnlaw01.OctetOrder" = some 5 by kernel_rfl).symm.trans hf) |>.symm
  obtain rfl : fn = Tryd.f5 := (Option.some.inj (Tryd.func5.symm.trans hfn)).symm
  refine ⟨by kernel_rfl, fun j t ht => ?_⟩
  rw [Tryd.params5] at ht
  obtain rfl : t = 22 := by simpa using Array.mem_of_getElem? ht
  exact (show Tryd.prog.wantsStandIn 22 = false by kernel_rfl)

theorem card : Rows.OctetOrderCardSaid :=
  Claim7.holds_tied_plain_at .later [] _ _ _ _ said (fun _ h => by cases h) (by kernel_rfl) (fun _ h => by cases h) octetOrder_row_tie rfl ⟨rfl, rfl⟩ (by kernel_rfl) rfl plain (by kernel_rfl)

end octetOrder
theorem octetOrder_holds : Rows.OctetOrderCardSaid := octetOrder.card

end Go.Proofs.YtglnjacaeefddaaDoor
