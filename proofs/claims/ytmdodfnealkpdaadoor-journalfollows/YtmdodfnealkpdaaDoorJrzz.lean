import Derived.Test.YtmdodfnealkpdaaDoorJlzz
import Derived.Test.YtmdodfnealkpdaaDoorKtzz
import Derived.Test.YtmdodfnealkpdaaDoorRows
import Derived.SizedLaws
import Derived.OpenShut
/-
  JournalFollows: the row and the card.
-/
namespace Go.Proofs.YtmdodfnealkpdaaDoor
open Go Go.Ev Go.Sy Go.ChangeShapes Go.WideShapes Go.ChangeAt Go.RowKit
set_option maxRecDepth 100000
theorem own : ownKnob Tryd.prog.godebug = none := by kernel_rfl
theorem mixed : Tryd.prog.follows .mixedOrders = true := by kernel_rfl
theorem laidOut : laidOutB Tryd.prog = true := by kernel_rfl
theorem cells5 : Tryd.prog.cellsOf 5 = 1 := by kernel_rfl
theorem cellsI : Tryd.prog.cellsOf 3 = 1 := by kernel_rfl
theorem cellsL : Tryd.prog.cellsOf 2 = 1 := by kernel_rfl
theorem cellsC : Tryd.prog.cellsOf 26 = 1 := by kernel_rfl
theorem cellsH : Tryd.prog.cellsOf 23 = 32 := by kernel_rfl
theorem cellsD : Tryd.prog.cellsOf 25 = 66 := by kernel_rfl
theorem cellsR : Tryd.prog.cellsOf 28 = 68 := by kernel_rfl
theorem underD : ∃ f0 f1 f2 f3 : Field, Tryd.prog.underlying 25 = some (.struct #[f0, f1, f2, f3]) ∧ (f0.type = 2 ∧ f0.offset = 0) ∧ (f1.type = 2 ∧ f1.offset = 1) ∧ (f2.type = 23 ∧ f2.offset = 2) ∧ (f3.type = 23 ∧ f3.offset = 34) :=
  ⟨_, _, _, _, Tryd.underlying25, ⟨rfl, rfl⟩, ⟨rfl, rfl⟩, ⟨rfl, rfl⟩, rfl, rfl⟩
theorem underR : ∃ f0 f1 f2 f3 f4 f5 : Field, Tryd.prog.underlying 28 = some (.struct #[f0, f1, f2, f3, f4, f5]) ∧ (f0.type = 3 ∧ f0.offset = 0) ∧ (f1.type = 2 ∧ f1.offset = 1) ∧ (f2.type = 2 ∧ f2.offset = 2) ∧ (f3.type = 23 ∧ f3.offset = 3) ∧ (f4.type = 23 ∧ f4.offset = 35) ∧ (f5.type = 26 ∧ f5.offset = 67) :=
  ⟨_, _, _, _, _, _, Tryd.underlying28, ⟨rfl, rfl⟩, ⟨rfl, rfl⟩, ⟨rfl, rfl⟩, ⟨rfl, rfl⟩, ⟨rfl, rfl⟩, rfl, rfl⟩
variable {H : Type} {enc : TypeId × Value → H} {W : World}
theorem in64 {n : Int} (h : (Lit.int .i64 n).wf = true) : In64 n := by
  simp [Lit.wf, IntKind.min, IntKind.max, IntKind.signed, IntKind.bits] at h
  unfold In64; omega
/-- A hash. -/
theorem open_hash {fuel : Nat} {cs : List Value} {x : DataW H × List MemPlace} (hf : DataW.trod enc Tryd.prog W 0 (fun _ => true) true fuel 23 cs = some x) : ∃ A : List Nat, A.length = 32 ∧ cs = A.map nB := by
  obtain ⟨xs, m, rfl, hx, hl, hn, hg⟩ := DataW.trod_array Tryd.underlying23 hf
  rw [cellsH] at hl
  have ch : ∀ i, ∃ n : Nat, i < 32 → cs[i]? = some (nB n) := fun i => by
    by_cases hi : i < 32
    · have h1 := hg i hi
      rw [cells5, Nat.mul_one, List.getElem?_eq_getElem (by omega)] at h1
      obtain ⟨n, h2, h3, h4⟩ := DataW.trod_int Tryd.underlying5 h1
      have h5 : cs[i]? = some (.int .u8 n) := by
        have := congrArg (·[0]?) h2
        simpa [List.getElem?_take, List.getElem?_drop] using this
      refine ⟨n.toNat, fun _ => ?_⟩
      rw [h5]
      simp [Lit.wf, IntKind.min, IntKind.max, IntKind.signed, IntKind.bits] at h4
      have : n = Int.ofNat n.toNat := by show n = (n.toNat : Int); omega
      rw [this]; rfl
    · exact ⟨0, fun h => absurd h hi⟩
  refine ⟨(List.range 32).map fun i => (ch i).choose, by simp, List.ext_getElem? fun i => ?_⟩
  by_cases hi : i < 32
  · rw [(ch i).choose_spec hi, List.getElem?_map, List.getElem?_map, List.getElem?_range hi]; rfl
  · rw [List.getElem?_eq_none (by omega), List.getElem?_eq_none (by simp; omega)]
theorem one_of {cs : List Value} (h : cs.length = 1) : ∃ v, cs = [v] := by
  match cs, h with
  | [v], _ => exact ⟨v, rfl⟩
theorem ab_b {A : List Nat} {n : Nat} : (A.map nB).map (ab n) = A.map nB := by rw [List.map_map]; rfl
theorem open_head {base : Nat} {v : Value} {d : DataW H} {p : List MemPlace} (hv : Value.okWide Tryd.prog W .any base 25 v) (h : DataW.Trod enc Tryd.prog W 0 (fun _ => true) true 25 v d p) :
    ∃ c q T R, abv W.heap.size v = .agg ⟨hdV c q T R⟩ ∧ T.length = 32 ∧ R.length = 32 ∧ In64 c ∧ In64 q := by
  obtain ⟨f0, f1, f2, f3, hu, ⟨t0, o0⟩, ⟨t1, o1⟩, ⟨t2, o2⟩, t3, o3⟩ := underD
  obtain ⟨⟨cs⟩, rfl, hsz⟩ := okWide_struct hu hv
  obtain ⟨fuel, hf⟩ := h
  simp only [Value.cells] at hf
  rw [cellsD] at hsz
  have hcl : cs.length = 66 := hsz
  obtain ⟨xs, n1, rfl, hxy, _, hxl, hg⟩ := DataW.trod_struct hu hf
  match xs, hxl with
  | [y0, y1, y2, y3], _ =>
    have g0 := hg 0 f0 rfl
    have g1 := hg 1 f1 rfl
    have g2 := hg 2 f2 rfl
    have g3 := hg 3 f3 rfl
    rw [t0, o0, cellsL] at g0
    rw [t1, o1, cellsL] at g1
    rw [t2, o2, cellsH] at g2
    rw [t3, o3, cellsH] at g3
    simp only [List.getElem?_cons_zero, List.getElem?_cons_succ] at g0 g1 g2 g3
    obtain ⟨c, e0, -, w0⟩ := DataW.trod_int Tryd.underlying2 g0
    obtain ⟨q, e1, -, w1⟩ := DataW.trod_int Tryd.underlying2 g1
    obtain ⟨T, hT, e2⟩ := open_hash g2
    obtain ⟨R, hR, e3⟩ := open_hash g3
    refine ⟨c, q, T, R, ?_, hT, hR, in64 w0, in64 w1⟩
    have a0 := List.take_append_drop 1 cs
    have a1 := List.take_append_drop 1 (cs.drop 1)
    rw [List.drop_drop] at a1
    have a2 := List.take_append_drop 32 (cs.drop 2)
    rw [List.drop_drop] at a2
    have a3 : cs.drop 34 = R.map nB := by rw [← e3, List.take_of_length_le (by rw [List.length_drop]; omega)]
    rw [List.drop_zero] at e0
    have e : cs = hdV c q T R := by
      rw [← a0, ← a1, ← a2, e0, e1, e2, a3]; rfl
    show Value.agg ⟨cs.map (ab W.heap.size)⟩ = _
    rw [e]
    unfold hdV
    rw [List.map_cons, List.map_cons, List.map_append, ab_b, ab_b]; rfl
theorem ab_eqV {H : Nat} {y : Option Addr} {n m : Nat} : eqV 4 (ab H (.slice y n m)) (ab H (.slice y n m)) = true := by
  cases y with
  | none => exact eqV4
  | some a =>
    obtain ⟨b, o, p⟩ := a
    show eqV 4 (if n = 0 then _ else if b < H ∧ p = none then _ else _) (if n = 0 then _ else if b < H ∧ p = none then _ else _) = true
    split
    · exact eqV4
    · split
      · exact eqV4
      · rfl
theorem open_record {base : Nat} {v : Value} {d : DataW H} {p : List MemPlace} (hv : Value.okWide Tryd.prog W .any base 28 v) (h : DataW.Trod enc Tryd.prog W 0 (fun _ => true) true 28 v d p) :
    ∃ k c q P R x, abv W.heap.size v = .agg ⟨rcV k c q P R x⟩ ∧ P.length = 32 ∧ R.length = 32 ∧ In64 c ∧ In64 q ∧ eqV 4 x x = true := by
  obtain ⟨f0, f1, f2, f3, f4, f5, hu, ⟨t0, o0⟩, ⟨t1, o1⟩, ⟨t2, o2⟩, ⟨t3, o3⟩, ⟨t4, o4⟩, t5, o5⟩ := underR
  obtain ⟨⟨cs⟩, rfl, hsz⟩ := okWide_struct hu hv
  obtain ⟨fuel, hf⟩ := h
  simp only [Value.cells] at hf
  rw [cellsR] at hsz
  have hcl : cs.length = 68 := hsz
  obtain ⟨xs, n1, rfl, hxy, _, hxl, hg⟩ := DataW.trod_struct hu hf
  match xs, hxl with
  | [y0, y1, y2, y3, y4, y5], _ =>
    have g0 := hg 0 f0 rfl
    have g1 := hg 1 f1 rfl
    have g2 := hg 2 f2 rfl
    have g3 := hg 3 f3 rfl
    have g4 := hg 4 f4 rfl
    have g5 := hg 5 f5 rfl
    rw [t0, o0, cellsI] at g0
    rw [t1, o1, cellsL] at g1
    rw [t2, o2, cellsL] at g2
    rw [t3, o3, cellsH] at g3
    rw [t4, o4, cellsH] at g4
    rw [t5, o5, cellsC] at g5
    simp only [List.getElem?_cons_zero, List.getElem?_cons_succ] at g0 g1 g2 g3 g4 g5
    obtain ⟨k, e0, -, -⟩ := DataW.trod_int Tryd.underlying3 g0
    obtain ⟨c, e1, -, w1⟩ := DataW.trod_int Tryd.underlying2 g1
    obtain ⟨q, e2, -, w2⟩ := DataW.trod_int Tryd.underlying2 g2
    obtain ⟨P, hP, e3⟩ := open_hash g3
    obtain ⟨R, hR, e4⟩ := open_hash g4
    obtain ⟨y, n, m, e5⟩ : ∃ y n m, (cs.drop 67).take 1 = [.slice y n m] := by
      rcases DataW.trod_slice Tryd.underlying26 g5 with ⟨e, _⟩ | ⟨a, len, cap, _, _, _, _, e, _⟩
      · exact ⟨_, _, _, e⟩
      · exact ⟨_, _, _, e⟩
    refine ⟨k, c, q, P, R, ab W.heap.size (.slice y n m), ?_, hP, hR, in64 w1, in64 w2, ab_eqV⟩
    have a0 := List.take_append_drop 1 cs
    have a1 := List.take_append_drop 1 (cs.drop 1)
    rw [List.drop_drop] at a1
    have a2 := List.take_append_drop 1 (cs.drop 2)
    rw [List.drop_drop] at a2
    have a3 := List.take_append_drop 32 (cs.drop 3)
    rw [List.drop_drop] at a3
    have a4 := List.take_append_drop 32 (cs.drop 35)
    rw [List.drop_drop] at a4
    have a5 : cs.drop 67 = [.slice y n m] := by rw [← e5, List.take_of_length_le (by rw [List.length_drop]; omega)]
    rw [List.drop_zero] at e0
    have e : cs = rcV k c q P R (.slice y n m) := by
      rw [← a0, ← a1, ← a2, ← a3, ← a4, e0, e1, e2, e3, e4, a5]; rfl
    show Value.agg ⟨cs.map (ab W.heap.size)⟩ = _
    rw [e]
    unfold rcV
    rw [List.map_cons, List.map_cons, List.map_cons, List.map_append, List.map_append, ab_b, ab_b]; rfl
theorem kat0 (h : ∀ i, W.cell? ⟨0, i, none⟩ = Dg.KN[i]?) : KAt (st0 W) := by
  have h0 := h 0
  unfold World.cell? at h0
  split at h0
  case h_2 => cases h0
  rename_i c t fr hw
  have hg : (st0 W).hp.get 0 = some (.ro (c.toList.map (ab W.heap.size))) := by
    rw [st0_get, if_pos (by decide)]; unfold ob0; rw [hw]
  have hc : c.toList = KN := List.ext_getElem? fun i => by
    have h1 := h i
    unfold World.cell? at h1
    rw [hw] at h1
    rw [Array.getElem?_toList]
    exact h1
  rw [hc] at hg
  exact .inr ⟨_, _, rfl, readAt_of (.inl hg) (by rw [List.drop_zero, List.length_map]; exact Nat.le_refl _)⟩
def setCells (c : Array Value) : Obj → Obj
  | .cells _ t frozen => .cells c t frozen
  | o => o
/-- A world for the witness. -/
def LaidIs (os : Os) (V : World) : Prop := V = { World.holding Tryd.prog os ⟨#[], #[], []⟩ with heap := (World.holding Tryd.prog os ⟨#[], #[], []⟩).heap.modify 0 (setCells ⟨KN⟩) }
namespace journalFollows
def arg0 : Value := .agg ⟨hdV 0 0 (List.replicate 32 0) (List.replicate 32 0)⟩
def arg1 : Value := .agg ⟨rcV 0 0 0 (List.replicate 32 0) (List.replicate 32 0) (.slice none 0 0)⟩
def dat0 {H : Type} : DataW H := .agg [.lit (.int .i64 0), .lit (.int .i64 0), .agg (List.replicate 32 (.lit (.int .u8 0))), .agg (List.replicate 32 (.lit (.int .u8 0)))]
def dat1 {H : Type} : DataW H := .agg [.lit (.int .i64 0), .lit (.int .i64 0), .lit (.int .i64 0), .agg (List.replicate 32 (.lit (.int .u8 0))), .agg (List.replicate 32 (.lit (.int .u8 0))), .nil]
theorem contract (H : Type) (enc : TypeId × Value → H) (W : World) (base : Nat) (args : Array Value) (ds gs : List (DataW H)) (before : List MemPlace)
    (hval : ∀ (j : Nat) t v, Tryd.f3.params[j]? = some t → args[j]? = some v → Value.okWide Tryd.prog W .any base t v)
    (hW : DataW.Whole enc Tryd.prog Tryd.f3.params.toList Rows.journalFollowsSpec.vars false W args.toList ds gs before)
    (hL : laidMetH Tryd.prog Rows.journalFollowsRow.laid W) :
    Calls Tryd.prog 3 args W fun e W' => ∃ v, e = .returned v ∧ Rows.journalFollowsSpec.post enc Tryd.prog Tryd.f3 false true false false W args v W' := by
  have hW' := hW
  obtain ⟨p, q, hA0, hV, rfl, hfz, hnd⟩ := hW
  have hA : DataW.TrodAll enc Tryd.prog W 0 (fun _ => true) true Tryd.f3.params.toList args.toList ds p := hA0
  rw [Tryd.params3] at hA hval
  obtain ⟨v0, v1, d0, d1, p0, p1, hargs, rfl, rfl, h0, h1⟩ := trodAll_two hA
  obtain rfl : args = #[v0, v1] := by cases args; simp_all
  obtain ⟨rfl, rfl⟩ := trodVars_none hV
  clear hA0
  simp only [List.append_nil] at hW'
  have hlt : ∀ x ∈ p0 ++ p1, x.block < W.heap.size := fun x hx => by simpa using hW'.lt x (by simpa using hx)
  obtain ⟨c, q, T, R, a0, hT, hR, b1, b2⟩ := open_head (hval 0 25 v0 rfl rfl) h0
  obtain ⟨k, c', q', P, R', x, a1, hP, hR', b3, b4, hx⟩ := open_record (hval 1 28 v1 rfl rfl) h1
  have law := law_ok (k := k) hx (wf0 W) (kat0 (Dg.kinds_met (l := Rows.journalFollowsRow.laid) hL (.head _))) hT hR hP hR' b1 b2 b3 b4
  have call := calls0 (B := B) (args := [v0, v1]) (w := W) mixed hook0 (by
    show Cl B (.call 3 [abv W.heap.size v0, abv W.heap.size v1]) (st0 W) _
    rw [a0, a1]; exact law)
  refine Calls.mono call fun e W' ⟨he, hg⟩ => ?_
  subst he
  exact ⟨_, rfl, _, _, _, [], _, [], hW', trodAll_cons_mk (shut_bool Tryd.underlying4 _) trodAll_mk0,
    trodAll_mk2 (Below.trod laidOut (by kernel_rfl) (of_decide_eq_true (by kernel_rfl)) h0 hg fun x hx => hlt x (by simp [hx])) (Below.trod laidOut (by kernel_rfl) (of_decide_eq_true (by kernel_rfl)) h1 hg fun x hx => hlt x (by simp [hx])), rfl, hg.frame _, fun h => by cases h⟩
theorem laid_met (os : Os) {V : World} (h : LaidIs os V) : laidMet Tryd.prog Rows.journalFollowsRow.laid (V.forCall (fun _ _ => 0) ⟨#[], #[arg0, arg1], []⟩).memory := by
  subst h
  exact laidMet_of_run' 8 (by kernel_rfl) (by kernel_rfl)
theorem reads (os : Os) {V : World} (h : LaidIs os V) {H : Type} (enc : TypeId × Value → H) : ∃ places, DataW.whole enc Tryd.prog (V.forCall (fun _ _ => 0) ⟨#[], #[arg0, arg1], []⟩).memory Tryd.f3.params.toList Rows.journalFollowsSpec.vars false (#[arg0, arg1] : Array Value).toList 8 = some ([dat0, dat1], [], places) := by
  subst h
  exact ⟨[], by kernel_rfl⟩
theorem lifted (os : Os) (started : os.Started) (H : Type) (enc : TypeId × Value → H) (F : Stop.Interp) :
    ReturnsInHanded {} Tryd.checked os 3 .any ((OpenSpec.ofChange Rows.journalFollowsSpec).preRow enc Tryd.prog Tryd.f3 Rows.journalFollowsRow.domain false Rows.journalFollowsRow.laid) (((OpenSpec.ofChange Rows.journalFollowsSpec).at F).post enc Tryd.prog Tryd.f3 false true false false) := by
  obtain ⟨places, hx⟩ := reads os rfl enc
  refine returnsInHanded_of_row (C := Tryd.checked) (s := OpenSpec.ofChange Rows.journalFollowsSpec) own started (by kernel_rfl) Tryd.func3
    (witness_row_at (enc := enc) (C := Tryd.checked) false _ #[arg0, arg1] rfl (by kernel_rfl) (by kernel_rfl) (by kernel_rfl)
      (OpenSpec.preRow_of_cond 8 hx (by kernel_rfl) (fun k hk => by cases hk) (by kernel_rfl) (laid_met os rfl))) ?_
  intro W base args ds gs before hval hW _ _ _ hL _ _
  exact contract H enc W base args ds gs before hval hW hL
theorem said : Rows.JournalFollowsSaid :=
  OpenClaim.holds_of_cond 3 Tryd.f3 rfl rfl rfl rfl rfl rfl rfl ⟨rfl, rfl, rfl, rfl, rfl⟩ rfl rfl rfl rfl rfl (by kernel_rfl) Tryd.func3 (by kernel_rfl)
    (of_decide_eq_true (by kernel_rfl)) (by unfold Func.isWrapper; first | (rw [if_pos (by decide +kernel)]; kernel_rfl) | (rw [if_neg (by decide +kernel)]; exact ⟨rfl, rfl⟩))
    (fun os started H enc _ F => by rw [OpenClaim.pre_eq_preRow]; exact lifted os started H enc F)
theorem plain (f : FuncId) (fn : Func) (hf : Tryd.pinned.checked.prog.funcNamed "cairn/cairnlaw19.JournalFollows" = some f) (hfn : Tryd.pinned.checked.prog.funcs[f]? = some fn) :
    false = Tryd.pinned.checked.prog.looks [] ∧ ∀ (j : Nat) t, fn.params[j]? = some t → Tryd.pinned.checked.prog.wantsStandIn t = false := by
  obtain rfl : f = 3 := Option.some.inj ((show Tryd.prog.funcNamed "cairn/cairnlaw19.JournalFollows" = some 3 by kernel_rfl).symm.trans hf) |>.symm
  obtain rfl : fn = Tryd.f3 := (Option.some.inj (Tryd.func3.symm.trans hfn)).symm
  refine ⟨by kernel_rfl, fun j t ht => ?_⟩
  rw [Tryd.params3] at ht
  have ht' : t = 25 ∨ t = 28 := by simpa using Array.mem_of_getElem? ht
  rcases ht' with rfl | rfl
  · exact (show Tryd.prog.wantsStandIn 25 = false by kernel_rfl)
  · exact (show Tryd.prog.wantsStandIn 28 = false by kernel_rfl)
theorem card : Rows.JournalFollowsCardSaid :=
  Claim7.holds_tied_plain_at .later [] _ _ _ _ said (fun _ h => by cases h) (by kernel_rfl) (fun _ h => by cases h) journalFollows_row_tie rfl ⟨rfl, rfl⟩ (by kernel_rfl) rfl plain (by kernel_rfl)
end journalFollows
theorem journalFollows_holds : Rows.JournalFollowsCardSaid := journalFollows.card
end Go.Proofs.YtmdodfnealkpdaaDoor
