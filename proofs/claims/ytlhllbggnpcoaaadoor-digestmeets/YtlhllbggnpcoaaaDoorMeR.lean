import Derived.Test.YtlhllbggnpcoaaaDoorOpB
import Derived.Test.YtlhllbggnpcoaaaDoorFol
import Derived.Deep.Matrix
import Derived.Test.YtlhllbggnpcoaaaDoorMee
/-
  An argument of strings, opened.
-/
namespace Go.Proofs.YtlhllbggnpcoaaaDoor
open Go.ChangeShapes Go.WideShapes Go.ChangeAt Go.RowKit

theorem cells24 : Tryd.prog.cellsOf 22 = 1 := by kernel_rfl
theorem bytes24 : Tryd.prog.bytesOf 22 = 24 := by kernel_rfl
def oblk : Option Addr → Nat
  | none => 0
  | some a => a.block
def ofs : Option Addr → Nat
  | none => 0
  | some a => a.off
theorem addr_at {w : World} {a : Addr} {v : Value} (h : w.cell? (a.add 0) = some v) : a = ⟨a.block, a.off, none⟩ := by
  obtain ⟨bl, o, sp⟩ := a
  cases sp with
  | none => rfl
  | some x =>
    exfalso
    have e : (⟨bl, o, some x⟩ : Addr).add 0 = ⟨bl, o, some x⟩ := by unfold Addr.add; simp
    rw [e] at h
    unfold World.cell? at h
    split at h <;> simp at h
theorem wall_mem {H : Type} {P : Program} {e : TypeId} : ∀ {l : List (DataW H)} {d : DataW H}, d ∈ l → ∀ n ∈ d.weights P e, n ∈ DataW.weightsAll P e l
  | x :: l, d, h, n, hn => by
    simp only [DataW.weightsAll, List.mem_append]
    rcases List.mem_cons.1 h with rfl | h
    · exact Or.inl hn
    · exact Or.inr (wall_mem h n hn)
/-- AN ARGUMENT OF TYPE [][]byte. -/
theorem open_parts4 {H : Type} {enc : TypeId × Value → H} {W : World} {fuel : Nat} {a0 : Option Addr} {len cap : Nat} {d : DataW H} {p : List MemPlace}
    (hf : DataW.trod enc Tryd.prog W 0 (fun _ => true) true fuel 37 [Value.slice a0 len cap] = some (d, p)) (hk : ∀ n ∈ d.weights Tryd.prog 37, n ≤ reachBytes) :
    ∃ (b o : Nat) (A : Nat → Option Addr) (bB oO cC : Nat → Nat) (T : Nat → List Nat), SS W a0 b o len A bB oO cC T := by
  rcases Deep.open_int_rows Tryd.underlying37 Tryd.underlying22 Tryd.underlying5 cells24 cells5 hf with ⟨hcs, hx⟩ | ⟨a, len', cap', A, L, C, Z, hcs, _, hl, hm, hx, hr⟩
  · simp only [List.cons.injEq, Value.slice.injEq, and_true] at hcs
    obtain ⟨rfl, rfl, rfl⟩ := hcs
    exact ⟨0, 0, fun _ => none, fun _ => 0, fun _ => 0, fun _ => 0, fun _ => [], ⟨fun h => absurd h (by omega), fun i h => absurd h (by omega), fun i h => absurd h (by omega), fun i h => absurd h (by omega), fun i h => absurd h (by omega), by omega⟩⟩
  · simp only [List.cons.injEq, Value.slice.injEq, and_true] at hcs
    obtain ⟨rfl, rfl, rfl⟩ := hcs
    simp only [Prod.mk.injEq] at hx
    have rb : reachBytes = 140737488351232 := by decide
    rw [hx.1] at hk
    have hlen : len ≤ 140737488351232 := by
      have q := hk _ (by simp only [DataW.weights, Tryd.underlying37]; exact List.mem_cons_self)
      rw [bytes24, List.length_map, List.length_range, List.length_map, List.length_range, rb] at q
      omega
    have hL : ∀ i, i < len → L i ≤ 140737488351232 := fun i hi => by
      obtain ⟨_, h1, h2, h3, h4, h5, h6⟩ := hr i (by omega)
      cases hA : A i with
      | none => have := h5 hA; omega
      | some a' =>
        have q := hk ((lits (H := H) .u8 ((Z i).take (L i))).length + (lits (H := H) .u8 ((Z i).drop (L i))).length) (by
          simp only [DataW.weights, Tryd.underlying37]
          refine List.mem_cons_of_mem _ (List.mem_append_left _ (wall_mem (d := Deep.intRow .u8 (A i) (L i) (Z i)) (List.mem_map.2 ⟨i, List.mem_range.2 hi, rfl⟩) _ ?_))
          rw [hA]
          simp only [Deep.intRow, DataW.weights, Tryd.underlying22, bytes5, Nat.mul_one]
          exact List.mem_cons_self)
        have e : (lits (H := H) .u8 ((Z i).take (L i))).length = L i := by simp [lits]; omega
        rw [e, rb] at q
        omega
    have vw : ∀ i, i < len → View W (A i) (oblk (A i)) (ofs (A i)) (L i) (fun j => ((((Z i).getD j 0).toNat % 256 : Nat) : Int)) := fun i hi => by
      obtain ⟨_, h1, h2, h3, h4, h5, h6⟩ := hr i (by omega)
      have bd : ∀ j, 0 ≤ (Z i).getD j 0 ∧ (Z i).getD j 0 ≤ 255 := fun j => by
        have := range_u8 h4 j
        simpa [List.getD] using this
      cases hA : A i with
      | none =>
        have := h5 hA
        exact view_empty _ _ _ _ _ _ (by omega)
      | some a' =>
        have h7 := (h6 a' hA).2
        refine ⟨fun h0 => ?_, fun j hj => ?_, fun j hj => ?_, by have := hL i hi; omega⟩
        · exact congrArg some (addr_at (h7 0 (by omega)))
        · have c := h7 j (by omega)
          have e := addr_at (h7 0 (by omega))
          rw [e, Go.WideShapes.add_plain] at c
          show W.cell? ⟨a'.block, a'.off + j, none⟩ = _
          rw [c]
          have b1 := bd j
          show some (Value.int .u8 ((Z i).getD j 0)) = some (Value.int .u8 (((((Z i).getD j 0).toNat % 256 : Nat)) : Int))
          congr 2
          omega
        · have := Nat.mod_lt ((Z i).getD j 0).toNat (show 0 < 256 by decide)
          show 0 ≤ (((((Z i).getD j 0).toNat % 256 : Nat)) : Int) ∧ _
          omega
    refine ⟨a.block, a.off, A, fun i => oblk (A i), fun i => ofs (A i), C, fun i => lst (L i) (fun j => ((Z i).getD j 0).toNat % 256), ⟨fun h0 => ?_, fun i hi => ?_, fun i hi => vw_of (vw i hi), fun i hi => by rw [lst_len]; exact (hr i (by omega)).2.1, fun i hi => by rw [lst_len]; have := hL i hi; omega, by omega⟩⟩
    · exact congrArg some (addr_at (hr 0 (by omega)).1)
    · have c := (hr i (by omega)).1
      have e := addr_at (hr 0 (by omega)).1
      rw [e, Go.WideShapes.add_plain] at c
      rw [lst_len]
      exact c
end Go.Proofs.YtlhllbggnpcoaaaDoor

/-
  DigestMeets: the row and the card.
-/
namespace Go.Proofs.YtlhllbggnpcoaaaDoor
open Go.ChangeShapes Go.WideShapes Go.ChangeAt Go.RowKit

namespace digestMeets
open Go.ChangeShapes Go.WideShapes Go.ChangeAt Go.RowKit

set_option maxRecDepth 100000 in
theorem contract (H : Type) (enc : TypeId × Value → H) (W : World) (base : Nat) (args : Array Value) (ds gs : List (DataW H)) (before : List MemPlace)
    (hval : ∀ (j : Nat) t v, Tryd.f4.params[j]? = some t → args[j]? = some v → Value.okWide Tryd.prog W .any base t v)
    (hW : DataW.Whole enc Tryd.prog Tryd.f4.params.toList Rows.digestMeetsSpec.vars false W args.toList ds gs before)
    (hsz0 : (DataW.weightsEach Tryd.prog (Tryd.f4.params.toList ++ (OpenSpec.ofChange Rows.digestMeetsSpec).bare.plain.varTypes Tryd.prog) (ds ++ gs)).all (· ≤ reachBytes) = true)
    (hL : laidMetH Tryd.prog Rows.digestMeetsRow.laid W) :
    Calls Tryd.prog 4 args W fun e W' => ∃ v, e = .returned v ∧ Rows.digestMeetsSpec.post enc Tryd.prog Tryd.f4 false true false false W args v W' := by
  have hW' := hW
  obtain ⟨p, q, hA0, hV, rfl, hfz, hnd⟩ := hW
  have hA : DataW.TrodAll enc Tryd.prog W 0 (fun _ => true) true Tryd.f4.params.toList args.toList ds p := hA0
  have hsz : (DataW.weightsEach Tryd.prog (Tryd.f4.params.toList ++ []) (ds ++ gs)).all (· ≤ reachBytes) = true := hsz0
  rw [Tryd.params4] at hA hval hsz
  obtain ⟨v0, vs0, d0, ds0, p0, q0, hargs0, rfl, rfl, h0, r0⟩ := trodAll_cons hA
  obtain ⟨v1, vs1, d1, ds1, p1, q1, hargs1, rfl, rfl, h1, r1⟩ := trodAll_cons r0
  obtain ⟨rfl, rfl, rfl⟩ := trodAll_nil r1
  obtain rfl : args = #[v0, v1] := Array.toList_inj.1 (by rw [hargs0, hargs1])
  obtain ⟨rfl, rfl⟩ := trodVars_none hV
  have ok0 := hval 0 3 v0 rfl rfl
  obtain ⟨x0, rfl⟩ := okWide_int (k := .i64) Tryd.underlying3 ok0
  have h0k := h0
  obtain ⟨f0, hf0⟩ := h0
  obtain ⟨a1, l1, c1, rfl⟩ := okWide_slice Tryd.underlying37 (hval 1 37 v1 rfl rfl)
  have h1k := h1
  obtain ⟨f1, hf1⟩ := h1
  clear hA0 hsz0 
  simp only [List.append_nil] at hW' hsz
  have hlt : ∀ x ∈ p0 ++ p1, x.block < W.heap.size := fun x hx => by simpa using hW'.lt x (by simpa using hx)
  obtain ⟨b1, o1, A1, bB1, oO1, cC1, T1, hS1⟩ := open_parts4 (by simpa [Value.cells] using hf1) (fun n hn => by have q := List.all_eq_true.1 hsz _ (DataW.weights_mem_each (j := 1) rfl rfl n hn); simpa using q)
  refine (meets_any W (ground (l := Rows.digestMeetsRow.laid) hL (.head _) (.tail _ (.head _))) x0 a1 b1 o1 l1 c1 A1 bB1 oO1 cC1 T1 hS1).mono fun e W' ⟨he, hg⟩ => ?_
  subst he
  refine ⟨_, rfl, _, _, _, [], _, [], hW', trodAll_cons_mk (shut_bool Tryd.underlying4 _) trodAll_mk0,
    (trodAll_cons_mk (Below.trod laidOut (by kernel_rfl) (of_decide_eq_true (by kernel_rfl)) h0k hg fun x hx => hlt x (by simp [hx])) (trodAll_cons_mk (Below.trod laidOut (by kernel_rfl) (of_decide_eq_true (by kernel_rfl)) h1k hg fun x hx => hlt x (by simp [hx])) trodAll_mk0)), rfl, hg.frame _, fun h => by cases h⟩

theorem laid_met (os : Os) {V : World} (h : LaidIs os V) : laidMet Tryd.prog Rows.digestMeetsRow.laid (V.forCall (fun _ _ => 0) ⟨#[], #[.int .i64 0, .slice none 0 0], []⟩).memory := by
  subst h
  exact laidMet_of_run' 8 (by kernel_rfl) (by kernel_rfl)
theorem reads (os : Os) {V : World} (h : LaidIs os V) {H : Type} (enc : TypeId × Value → H) : ∃ places, DataW.whole enc Tryd.prog (V.forCall (fun _ _ => 0) ⟨#[], #[.int .i64 0, .slice none 0 0], []⟩).memory Tryd.f4.params.toList Rows.digestMeetsSpec.vars false (#[.int .i64 0, .slice none 0 0] : Array Value).toList 8 = some ([.lit (.int .i64 0), .nil], [], places) := by
  subst h
  exact ⟨[], by kernel_rfl⟩

set_option maxRecDepth 100000 in
theorem lifted (os : Os) (started : os.Started) (H : Type) (enc : TypeId × Value → H) (F : Stop.Interp) :
    ReturnsInHanded {} Tryd.checked os 4 .any ((OpenSpec.ofChange Rows.digestMeetsSpec).preRow enc Tryd.prog Tryd.f4 Rows.digestMeetsRow.domain false Rows.digestMeetsRow.laid) (((OpenSpec.ofChange Rows.digestMeetsSpec).at F).post enc Tryd.prog Tryd.f4 false true false false) := by
  obtain ⟨places, hx⟩ := reads os rfl enc
  refine returnsInHanded_of_row (C := Tryd.checked) (s := OpenSpec.ofChange Rows.digestMeetsSpec) own started (by kernel_rfl) Tryd.func4
    (witness_row_at (enc := enc) (C := Tryd.checked) false _ #[.int .i64 0, .slice none 0 0] rfl (by kernel_rfl) (by kernel_rfl) (by kernel_rfl)
      (OpenSpec.preRow_of_cond 8 hx (by kernel_rfl) (fun k hk => by cases hk) (by kernel_rfl) (laid_met os rfl))) ?_
  intro W base args ds gs before hval hW _ _ hsz hL _ _
  exact contract H enc W base args ds gs before hval hW hsz hL

theorem said : Rows.DigestMeetsSaid :=
  OpenClaim.holds_of_cond 4 Tryd.f4 rfl rfl rfl rfl rfl rfl rfl ⟨rfl, rfl, rfl, rfl, rfl⟩ rfl rfl rfl rfl rfl (by kernel_rfl) Tryd.func4 (by kernel_rfl)
    (of_decide_eq_true (by kernel_rfl)) (by unfold Func.isWrapper; first | (rw [if_pos (by decide +kernel)]; kernel_rfl) | (rw [if_neg (by decide +kernel)]; exact ⟨rfl, rfl⟩))
    (fun os started H enc _ F => by rw [OpenClaim.pre_eq_preRow]; exact lifted os started H enc F)

theorem plain (f : FuncId) (fn : Func) (hf : Tryd.pinned.checked.prog.funcNamed "cairn/cairnlaw04.DigestMeets" = some f) (hfn : Tryd.pinned.checked.prog.funcs[f]? = some fn) :
    false = Tryd.pinned.checked.prog.looks [] ∧ ∀ (j : Nat) t, fn.params[j]? = some t → Tryd.pinned.checked.prog.wantsStandIn t = false := by
  obtain rfl : f = 4 := Option.some.inj ((show Tryd.prog.funcNamed "cairn/cairnlaw04.DigestMeets" = some 4 by kernel_rfl).symm.trans hf) |>.symm
  obtain rfl : fn = Tryd.f4 := (Option.some.inj (Tryd.func4.symm.trans hfn)).symm
  refine ⟨by kernel_rfl, fun j t ht => ?_⟩
  rw [Tryd.params4] at ht
  have hm := Array.mem_of_getElem? ht
  simp only [List.mem_toArray, List.mem_cons, List.not_mem_nil, or_false] at hm
  rcases hm with rfl | rfl
  · exact (show Tryd.prog.wantsStandIn 3 = false by kernel_rfl)
  · exact (show Tryd.prog.wantsStandIn 37 = false by kernel_rfl)

theorem card : Rows.DigestMeetsCardSaid :=
  Claim7.holds_tied_plain_at .later [] _ _ _ _ said (fun _ h => by cases h) (by kernel_rfl) (fun _ h => by cases h) digestMeets_row_tie rfl ⟨rfl, rfl⟩ (by kernel_rfl) rfl plain (by kernel_rfl)

end digestMeets
theorem digestMeets_holds : Rows.DigestMeetsCardSaid := digestMeets.card
end Go.Proofs.YtlhllbggnpcoaaaDoor
