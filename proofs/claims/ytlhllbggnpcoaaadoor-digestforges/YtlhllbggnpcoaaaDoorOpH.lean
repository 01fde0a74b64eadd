import Derived.Test.YtlhllbggnpcoaaaDoorGen
import Derived.Test.YtlhllbggnpcoaaaDoorCards
import Derived.Test.YtlhllbggnpcoaaaDoorTie
import Derived.ProofKit
import Derived.OpenShut
import Derived.Deep.DeepHandedRow
import Derived.Lib.LaidTab
import Derived.Lib.LaidU8
import Derived.Test.YtlhllbggnpcoaaaDoorMem
import Derived.Test.YtlhllbggnpcoaaaDoorWr
import Derived.SizedLaws
import Derived.Test.YtlhllbggnpcoaaaDoorEql
/-
  What the rows list.
-/
namespace Go.Proofs.YtlhllbggnpcoaaaDoor
open Go.ChangeShapes Go.WideShapes Go.ChangeAt Go.RowKit

theorem own : ownKnob Tryd.prog.godebug = none := by kernel_rfl
theorem tab_of {W : World} {name : String} {k : IntKind} {zs : List Int} {g : Nat} {t e : TypeId} {n : Nat}
    (hg : Tryd.prog.globalNamed name = some g) (hty : (Tryd.prog.globals[g]?).map (·.type) = some t) (ht : Tryd.prog.underlying t = some (.array n e)) (he : Tryd.prog.underlying e = some (.int k)) (hce : Tryd.prog.cellsOf e = 1) (hct : Tryd.prog.cellsOf t = n)
    (h : Lib.VarReads Tryd.prog W name (Lib.tabData k zs)) : Lib.TabIs Tryd.prog W name k zs := by
  obtain ⟨g', t', cs, fuel, p, hg', ht', hvar, hd⟩ := h
  obtain rfl := Option.some.inj (hg.symm.trans hg')
  obtain rfl := Option.some.inj (hty.symm.trans ht')
  unfold Lib.TabIs
  rw [hvar, ← Lib.cells_of_tab ht he hce hct hd]
theorem gFirst : Tryd.prog.globalNamed "cairn/sha.first" = some 0 := by kernel_rfl
theorem gRoots : Tryd.prog.globalNamed "cairn/sha.roots" = some 2 := by kernel_rfl
theorem tFirst : (Tryd.prog.globals[0]?).map (·.type) = some 94 := by kernel_rfl
theorem tRoots : (Tryd.prog.globals[2]?).map (·.type) = some 122 := by kernel_rfl
theorem cells50 : Tryd.prog.cellsOf 58 = 1 := by kernel_rfl
theorem cells51 : Tryd.prog.cellsOf 94 = 8 := by kernel_rfl
theorem cells62 : Tryd.prog.cellsOf 122 = 64 := by kernel_rfl

def HL : List Int := [1779033703, 3144134277, 1013904242, 2773480762, 1359893119, 2600822924, 528734635, 1541459225]
def KI : List Int := [1116352408, 1899447441, 3049323471, 3921009573, 961987163, 1508970993, 2453635748, 2870763221, 3624381080, 310598401, 607225278, 1426881987, 1925078388, 2162078206, 2614888103, 3248222580, 3835390401, 4022224774, 264347078, 604807628, 770255983, 1249150122, 1555081692, 1996064986, 2554220882, 2821834349, 2952996808, 3210313671, 3336571891, 3584528711, 113926993, 338241895, 666307205, 773529912, 1294757372, 1396182291, 1695183700, 1986661051, 2177026350, 2456956037, 2730485921, 2820302411, 3259730800, 3345764771, 3516065817, 3600352804, 4094571909, 275423344, 430227734, 506948616, 659060556, 883997877, 958139571, 1322822218, 1537002063, 1747873779, 1955562222, 2024104815, 2227730452, 2361852424, 2428436474, 2756734187, 3204031479, 3329325298]
theorem KI_at : ∀ i, i < 64 → KI.getD i 0 = ((K i : Nat) : Int) := by decide
theorem HL_at : ∀ i, i < 8 → HL.getD i 0 = ((w8 H0 i : Nat) : Int) := by decide
/-- WHAT A ROW's LIST GIVES. -/
theorem ground {W : World} {l : List (String × DataW Unit)} (h : laidMet Tryd.prog l W) (m1 : ("cairn/sha.first", Rows.laid_cairn_sha_first) ∈ l) (m2 : ("cairn/sha.roots", Rows.laid_cairn_sha_roots) ∈ l) : Ground W := by
  have t1 : Lib.TabIs Tryd.prog W "cairn/sha.first" .u32 HL := tab_of gFirst tFirst Tryd.underlying94 Tryd.underlying58 cells50 cells51 (Lib.laidMet.reads h m1)
  have t2 : Lib.TabIs Tryd.prog W "cairn/sha.roots" .u32 KI := tab_of gRoots tRoots Tryd.underlying122 Tryd.underlying58 cells50 cells62 (Lib.laidMet.reads h m2)
  have r2 : Roots W := fun i hi => by
    have c := t2.cell gRoots i hi
    rw [c, KI_at i hi]
  refine ⟨fun i hi => ?_, r2, World.block_lt_of_cell? _ _ (r2 0 (by decide))⟩
  have c := t1.cell gFirst i hi
  rw [c, HL_at i hi]
end Go.Proofs.YtlhllbggnpcoaaaDoor

/-
  A world for the witnesses.
-/
namespace Go.Proofs.YtlhllbggnpcoaaaDoor

def setCells (c : Array Value) : Obj → Obj
  | .cells _ t frozen => .cells c t frozen
  | o => o
/-- A WORLD FOR THE WITNESS: the settled one, the tables holding what their initialisers lay. -/
def LaidIs (os : Os) (V : World) : Prop := V = { World.holding Tryd.prog os ⟨#[], #[], []⟩ with heap := ((((World.holding Tryd.prog os ⟨#[], #[], []⟩).heap.modify 0 (setCells #[.int .u32 1779033703, .int .u32 3144134277, .int .u32 1013904242, .int .u32 2773480762, .int .u32 1359893119, .int .u32 2600822924, .int .u32 528734635, .int .u32 1541459225])).modify 2 (setCells #[.int .u32 1116352408, .int .u32 1899447441, .int .u32 3049323471, .int .u32 3921009573, .int .u32 961987163, .int .u32 1508970993, .int .u32 2453635748, .int .u32 2870763221, .int .u32 3624381080, .int .u32 310598401, .int .u32 607225278, .int .u32 1426881987, .int .u32 1925078388, .int .u32 2162078206, .int .u32 2614888103, .int .u32 3248222580, .int .u32 3835390401, .int .u32 4022224774, .int .u32 264347078, .int .u32 604807628, .int .u32 770255983, .int .u32 1249150122, .int .u32 1555081692, .int .u32 1996064986, .int .u32 2554220882, .int .u32 2821834349, .int .u32 2952996808, .int .u32 3210313671, .int .u32 3336571891, .int .u32 3584528711, .int .u32 113926993, .int .u32 338241895, .int .u32 666307205, .int .u32 773529912, .int .u32 1294757372, .int .u32 1396182291, .int .u32 1695183700, .int .u32 1986661051, .int .u32 2177026350, .int .u32 2456956037, .int .u32 2730485921, .int .u32 2820302411, .int .u32 3259730800, .int .u32 3345764771, .int .u32 3516065817, .int .u32 3600352804, .int .u32 4094571909, .int .u32 275423344, .int .u32 430227734, .int .u32 506948616, .int .u32 659060556, .int .u32 883997877, .int .u32 958139571, .int .u32 1322822218, .int .u32 1537002063, .int .u32 1747873779, .int .u32 1955562222, .int .u32 2024104815, .int .u32 2227730452, .int .u32 2361852424, .int .u32 2428436474, .int .u32 2756734187, .int .u32 3204031479, .int .u32 3329325298]))) }
end Go.Proofs.YtlhllbggnpcoaaaDoor

/-
  An argument of bytes, opened.
-/
namespace Go.Proofs.YtlhllbggnpcoaaaDoor
open Go.ChangeShapes Go.WideShapes Go.ChangeAt Go.RowKit

theorem laidOut : laidOutB Tryd.prog = true := by kernel_rfl
theorem cells5 : Tryd.prog.cellsOf 5 = 1 := by kernel_rfl
theorem bytes5 : Tryd.prog.bytesOf 5 = 1 := by kernel_rfl
/-- AN ARGUMENT OF TYPE []byte. -/
theorem open_bytes1 {H : Type} {enc : TypeId × Value → H} {W : World} {fuel : Nat} {a0 : Option Addr} {len cap : Nat} {d : DataW H} {p : List MemPlace}
    (hf : DataW.trod enc Tryd.prog W 0 (fun _ => true) true fuel 22 [Value.slice a0 len cap] = some (d, p)) (hk : ∀ es sp, d = .slice es sp → es.length + sp.length ≤ 140737488351232) :
    ∃ (b off : Nat) (X : Nat → Nat), View W a0 b off len (fun i => (X i : Int)) ∧ (∀ i, X i < 256) ∧ len ≤ cap ∧ (a0 = none → cap = 0) ∧ len ≤ 140737488351232 := by
  rcases open_ints Tryd.underlying22 Tryd.underlying5 cells5 hf with ⟨hcs, hx⟩ | ⟨a, len', cap', zs, hcs, _, hl, hm, hz, hx, hcell, hwz⟩
  · simp only [List.cons.injEq, Value.slice.injEq, and_true] at hcs
    obtain ⟨rfl, rfl, rfl⟩ := hcs
    exact ⟨0, 0, fun _ => 0, view_empty _ _ _ _ _ _ rfl, fun _ => (by decide : 0 < 256), Nat.le_refl _, fun _ => rfl, by omega⟩
  · simp only [List.cons.injEq, Value.slice.injEq, and_true] at hcs
    obtain ⟨rfl, rfl, rfl⟩ := hcs
    simp only [Prod.mk.injEq] at hx
    simp only [if_true] at hz
    have hlen : len ≤ 140737488351232 := by
      have q := hk _ _ hx.1
      have e : (lits (H := H) .u8 (zs.take len)).length = len := by simp [lits]; omega
      omega
    by_cases h0 : 0 < len
    · obtain ⟨b, off, rfl, hc⟩ := ints_at hcell (by omega)
      have bd : ∀ j, 0 ≤ zs.getD j 0 ∧ zs.getD j 0 ≤ 255 := fun j => by
        have := range_u8 hwz j
        simpa [List.getD] using this
      refine ⟨b, off, fun i => (zs.getD i 0).toNat % 256, ⟨fun _ => rfl, fun i hi => ?_, fun i hi => ?_, by omega⟩, fun i => Nat.mod_lt _ (by decide), hl, (fun h => by cases h), hlen⟩
      · have c := hc i (by omega)
        rw [c]
        have b1 := bd i
        show some (Value.int .u8 (zs.getD i 0)) = some (Value.int .u8 ((((zs.getD i 0).toNat % 256 : Nat)) : Int))
        congr 2
        omega
      · have := Nat.mod_lt (zs.getD i 0).toNat (show 0 < 256 by decide)
        show 0 ≤ ((((zs.getD i 0).toNat % 256 : Nat)) : Int) ∧ ((((zs.getD i 0).toNat % 256 : Nat)) : Int) ≤ 255
        omega
    · exact ⟨0, 0, fun _ => 0, view_empty _ _ _ _ _ _ (by omega), fun _ => (by decide : 0 < 256), hl, (fun h => by cases h), hlen⟩
/-- so told as a list -/
theorem open_bytes4 {H : Type} {enc : TypeId × Value → H} {W : World} {fuel : Nat} {a0 : Option Addr} {len cap : Nat} {d : DataW H} {p : List MemPlace}
    (hf : DataW.trod enc Tryd.prog W 0 (fun _ => true) true fuel 22 [Value.slice a0 len cap] = some (d, p)) (hk : ∀ es sp, d = .slice es sp → es.length + sp.length ≤ 140737488351232) :
    ∃ (b off : Nat) (t : List Nat), len = t.length ∧ Vw W a0 b off t ∧ t.length ≤ cap ∧ t.length ≤ 140737488355328 := by
  obtain ⟨b, off, X, hv, _, hc, _, hl⟩ := open_bytes1 hf hk
  exact ⟨b, off, lst len X, (lst_len _ _).symm, vw_of hv, by rw [lst_len]; exact hc, by rw [lst_len]; omega⟩
end Go.Proofs.YtlhllbggnpcoaaaDoor

/-
  An argument of 32 bytes, opened.
-/
namespace Go.Proofs.YtlhllbggnpcoaaaDoor
open Go.ChangeShapes Go.WideShapes Go.ChangeAt Go.RowKit

theorem cellsH : Tryd.prog.cellsOf 31 = 32 := by kernel_rfl
theorem okWide_array {P : Program} {w : World} {r : Reach} {base : Nat} {t : TypeId} {v : Value} {n : Nat} {e : TypeId} (ht : P.underlying t = some (.array n e)) (h : Value.okWide P w r base t v) : ∃ cs, v = .agg cs ∧ cs.size = P.cellsOf t := by
  unfold Value.okWide at h
  rw [ht] at h
  obtain ⟨cs, h1, h2, _⟩ := h
  exact ⟨cs, h1, h2⟩
theorem trod_array {H : Type} {enc : TypeId × Value → H} {P : Program} {w : World} {base : Nat} {sp : Nat → Bool} {held : Bool} {fuel : Nat} {t e : TypeId} {n : Nat} {cs : List Value} {x : DataW H × List MemPlace} (ht : P.underlying t = some (.array n e))
    (h : DataW.trod enc P w base sp held fuel t cs = some x) : ∃ ds p, x = (.agg ds, p) := by
  cases fuel with
  | zero => simp [DataW.trod] at h
  | succ fuel =>
    simp only [DataW.trod, ht] at h
    split at h
    · obtain ⟨xs, hm, hx⟩ := Option.map_eq_some_iff.1 h
      exact ⟨_, _, hx.symm⟩
    · cases h
def bval : Value → Nat
  | .int _ n => n.toNat % 256
  | _ => 0
/-- AN ARGUMENT OF TYPE Hash. -/
theorem open_hash0 {H : Type} {enc : TypeId × Value → H} {W : World} {fuel : Nat} {cs : Array Value} {d : DataW H} {p : List MemPlace} (hs : cs.size = 32)
    (hf : DataW.trod enc Tryd.prog W 0 (fun _ => true) true fuel 31 cs.toList = some (d, p)) : ∃ F : Nat → Nat, cs = arrA F ∧ ∀ i, F i < 256 := by
  refine ⟨fun i => bval (cs.getD i (.int .u8 0)), ?_, fun i => ?_⟩
  · obtain ⟨ds, q, hx⟩ := trod_array Tryd.underlying31 hf
    rw [hx] at hf
    apply Array.ext_getElem?
    intro i
    by_cases hi : i < 32
    · rw [arrA_cell _ i hi]
      obtain ⟨fuel', d', q', _, htr⟩ := Lib.array_elem Tryd.underlying31 hf i hi
      rw [cells5, Nat.mul_one, List.drop_eq_getElem_cons (by simp; omega)] at htr
      simp only [List.take_succ_cons, List.take_zero, Array.getElem_toList] at htr
      obtain ⟨z, hz, _, hw⟩ := DataW.trod_int Tryd.underlying5 htr
      injection hz with hz
      rw [Array.getElem?_eq_getElem (by omega), Array.getD_eq_getD_getElem?, Array.getElem?_eq_getElem (by omega), hz]
      have b : 0 ≤ z ∧ z ≤ 255 := by
        simp [Lit.wf, IntKind.min, IntKind.max, IntKind.bits, IntKind.signed] at hw
        omega
      show some (Value.int .u8 z) = some (Value.int .u8 (((z.toNat % 256 : Nat)) : Int))
      congr 2
      omega
    · rw [Array.getElem?_eq_none (by omega), Array.getElem?_eq_none (by rw [arrA_size]; omega)]
  · show bval _ < 256
    unfold bval
    split
    · exact Nat.mod_lt _ (by decide)
    · decide

set_option maxRecDepth 100000 in
/-- so told as a list -/
theorem open_hash {H : Type} {enc : TypeId × Value → H} {W : World} {base fuel : Nat} {v : Value} {d : DataW H} {p : List MemPlace} (hv : Value.okWide Tryd.prog W .any base 31 v)
    (hf : DataW.trod enc Tryd.prog W 0 (fun _ => true) true fuel 31 v.cells.toList = some (d, p)) : ∃ k, v = .agg (hA k) ∧ IsH k := by
  obtain ⟨cs, rfl, hs⟩ := okWide_array Tryd.underlying31 hv
  rw [cellsH] at hs
  obtain ⟨F, rfl, hF⟩ := open_hash0 hs hf
  have hk : IsH (lst 32 F) := isH_lst hF
  refine ⟨lst 32 F, ?_, hk⟩
  rw [← arrA_hA hk]
  have e : arrA (gd (lst 32 F)) = arrA F := by
    apply Array.ext_getElem?
    intro i
    by_cases hi : i < 32
    · rw [arrA_cell _ i hi, arrA_cell _ i hi, lst_gd hi]
    · rw [Array.getElem?_eq_none (by rw [arrA_size]; omega), Array.getElem?_eq_none (by rw [arrA_size]; omega)]
  rw [e]
end Go.Proofs.YtlhllbggnpcoaaaDoor
