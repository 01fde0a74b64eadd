import Derived.Test.YtlhllbggnpcoaaaGreatDoorMacB
import Derived.Test.YtlhllbggnpcoaaaGreatDoorCards
import Derived.Test.YtlhllbggnpcoaaaGreatDoorTie
import Derived.ProofKit
import Derived.OpenShut
import Derived.Deep.DeepHandedRow
import Derived.Lib.LaidTab
import Derived.Lib.LaidU8
import Derived.Test.YtlhllbggnpcoaaaGreatDoorMem
import Derived.Test.YtlhllbggnpcoaaaGreatDoorWr
import Derived.SizedLaws
import Derived.Test.YtlhllbggnpcoaaaGreatDoorYl2
import Derived.Test.YtlhllbggnpcoaaaGreatDoorBks
import Derived.Deep.SlicePairs
/-
  What the rows list.
-/
namespace Go.Proofs.YtlhllbggnpcoaaaGreatDoor
open Go.ChangeShapes Go.WideShapes Go.ChangeAt Go.RowKit

theorem own : ownKnob Tryz.prog.godebug = none := by kernel_rfl
theorem tab_of {W : World} {name : String} {k : IntKind} {zs : List Int} {g : Nat} {t e : TypeId} {n : Nat}
    (hg : Tryz.prog.globalNamed name = some g) (hty : (Tryz.prog.globals[g]?).map (·.type) = some t) (ht : Tryz.prog.underlying t = some (.array n e)) (he : Tryz.prog.underlying e = some (.int k)) (hce : Tryz.prog.cellsOf e = 1) (hct : Tryz.prog.cellsOf t = n)
    (h : Lib.VarReads Tryz.prog W name (Lib.tabData k zs)) : Lib.TabIs Tryz.prog W name k zs := by
  obtain ⟨g', t', cs, fuel, p, hg', ht', hvar, hd⟩ := h
  obtain rfl := Option.some.inj (hg.symm.trans hg')
  obtain rfl := Option.some.inj (hty.symm.trans ht')
  unfold Lib.TabIs
  rw [hvar, ← Lib.cells_of_tab ht he hce hct hd]
theorem gFirst : Tryz.prog.globalNamed "cairn/sha.first" = some 0 := by kernel_rfl
theorem gRoots : Tryz.prog.globalNamed "cairn/sha.roots" = some 2 := by kernel_rfl
theorem tFirst : (Tryz.prog.globals[0]?).map (·.type) = some 114 := by kernel_rfl
theorem tRoots : (Tryz.prog.globals[2]?).map (·.type) = some 144 := by kernel_rfl
theorem cells50 : Tryz.prog.cellsOf 59 = 1 := by kernel_rfl
theorem cells51 : Tryz.prog.cellsOf 114 = 8 := by kernel_rfl
theorem cells62 : Tryz.prog.cellsOf 144 = 64 := by kernel_rfl

def HL : List Int := [1779033703, 3144134277, 1013904242, 2773480762, 1359893119, 2600822924, 528734635, 1541459225]
def KI : List Int := [1116352408, 1899447441, 3049323471, 3921009573, 961987163, 1508970993, 2453635748, 2870763221, 3624381080, 310598401, 607225278, 1426881987, 1925078388, 2162078206, 2614888103, 3248222580, 3835390401, 4022224774, 264347078, 604807628, 770255983, 1249150122, 1555081692, 1996064986, 2554220882, 2821834349, 2952996808, 3210313671, 3336571891, 3584528711, 113926993, 338241895, 666307205, 773529912, 1294757372, 1396182291, 1695183700, 1986661051, 2177026350, 2456956037, 2730485921, 2820302411, 3259730800, 3345764771, 3516065817, 3600352804, 4094571909, 275423344, 430227734, 506948616, 659060556, 883997877, 958139571, 1322822218, 1537002063, 1747873779, 1955562222, 2024104815, 2227730452, 2361852424, 2428436474, 2756734187, 3204031479, 3329325298]
theorem KI_at : ∀ i, i < 64 → KI.getD i 0 = ((K i : Nat) : Int) := by decide
theorem HL_at : ∀ i, i < 8 → HL.getD i 0 = ((w8 H0 i : Nat) : Int) := by decide
/-- WHAT A ROW's LIST GIVES. -/
theorem ground {W : World} {l : List (String × DataW Unit)} (h : laidMet Tryz.prog l W) (m1 : ("cairn/sha.first", Rows.laid_cairn_sha_first) ∈ l) (m2 : ("cairn/sha.roots", Rows.laid_cairn_sha_roots) ∈ l) : Ground W := by
  have t1 : Lib.TabIs Tryz.prog W "cairn/sha.first" .u32 HL := tab_of gFirst tFirst Tryz.underlying114 Tryz.underlying59 cells50 cells51 (Lib.laidMet.reads h m1)
  have t2 : Lib.TabIs Tryz.prog W "cairn/sha.roots" .u32 KI := tab_of gRoots tRoots Tryz.underlying144 Tryz.underlying59 cells50 cells62 (Lib.laidMet.reads h m2)
  have r2 : Roots W := fun i hi => by
    have c := t2.cell gRoots i hi
    rw [c, KI_at i hi]
  refine ⟨fun i hi => ?_, r2, World.block_lt_of_cell? _ _ (r2 0 (by decide))⟩
  have c := t1.cell gFirst i hi
  rw [c, HL_at i hi]
end Go.Proofs.YtlhllbggnpcoaaaGreatDoor

/-
  An argument of bytes, opened.
-/
namespace Go.Proofs.YtlhllbggnpcoaaaGreatDoor
open Go.ChangeShapes Go.WideShapes Go.ChangeAt Go.RowKit

theorem laidOut : laidOutB Tryz.prog = true := by kernel_rfl
theorem cells5 : Tryz.prog.cellsOf 5 = 1 := by kernel_rfl
theorem bytes5 : Tryz.prog.bytesOf 5 = 1 := by kernel_rfl
/-- AN ARGUMENT OF TYPE []byte. -/
theorem open_bytes1 {H : Type} {enc : TypeId × Value → H} {W : World} {fuel : Nat} {a0 : Option Addr} {len cap : Nat} {d : DataW H} {p : List MemPlace}
    (hf : DataW.trod enc Tryz.prog W 0 (fun _ => true) true fuel 26 [Value.slice a0 len cap] = some (d, p)) (hk : ∀ es sp, d = .slice es sp → es.length + sp.length ≤ 140737488351232) :
    ∃ (b off : Nat) (X : Nat → Nat), View W a0 b off len (fun i => (X i : Int)) ∧ (∀ i, X i < 256) ∧ len ≤ cap ∧ (a0 = none → cap = 0) ∧ len ≤ 140737488351232 := by
  rcases open_ints Tryz.underlying26 Tryz.underlying5 cells5 hf with ⟨hcs, hx⟩ | ⟨a, len', cap', zs, hcs, _, hl, hm, hz, hx, hcell, hwz⟩
  · simp only [List.cons.injEq, Value.slice.injEq, and_true] at hcs
    obtain ⟨rfl, rfl, rfl⟩ := hcs
    exact ⟨0, 0, fun _ => 0, view_empty _ _ _ _ _ _ rfl, fun _ => (by decide : 0 < 256), Nat.le_refl _, fun _ => rfl, by omega⟩
  · simp only [List.cons.injEq, Value.slice.injEq, and_true] at hcs
    obtain ⟨rfl, rfl, rfl⟩ := hcs
    simp only [Prod.mk.injEq] at hx
    simp only [if_true] at hz
    have hlen : len ≤ 140737488351232 := by
      have q := hk _ _ hx.1
      have e : (lits (H := H) .u8 (zs.take len)).length = len := by simp [lits]; omega
      omega
    by_cases h0 : 0 < len
    · obtain ⟨b, off, rfl, hc⟩ := ints_at hcell (by omega)
      have bd : ∀ j, 0 ≤ zs.getD j 0 ∧ zs.getD j 0 ≤ 255 := fun j => by
        have := range_u8 hwz j
        simpa [List.getD] using this
      refine ⟨b, off, fun i => (zs.getD i 0).toNat % 256, ⟨fun _ => rfl, fun i hi => ?_, fun i hi => ?_, by omega⟩, fun i => Nat.mod_lt _ (by decide), hl, (fun h => by cases h), hlen⟩
      · have c := hc i (by omega)
        rw [c]
        have b1 := bd i
        show some (Value.int .u8 (zs.getD i 0)) = some (Value.int .u8 ((((zs.getD i 0).toNat % 256 : Nat)) : Int))
        congr 2
        omega
      · have := Nat.mod_lt (zs.getD i 0).toNat (show 0 < 256 by decide)
        show 0 ≤ ((((zs.getD i 0).toNat % 256 : Nat)) : Int) ∧ ((((zs.getD i 0).toNat % 256 : Nat)) : Int) ≤ 255
        omega
    · exact ⟨0, 0, fun _ => 0, view_empty _ _ _ _ _ _ (by omega), fun _ => (by decide : 0 < 256), hl, (fun h => by cases h), hlen⟩
/-- so told as a list -/
theorem open_bytes4 {H : Type} {enc : TypeId × Value → H} {W : World} {fuel : Nat} {a0 : Option Addr} {len cap : Nat} {d : DataW H} {p : List MemPlace}
    (hf : DataW.trod enc Tryz.prog W 0 (fun _ => true) true fuel 26 [Value.slice a0 len cap] = some (d, p)) (hk : ∀ es sp, d = .slice es sp → es.length + sp.length ≤ 140737488351232) :
    ∃ (b off : Nat) (t : List Nat), len = t.length ∧ Vw W a0 b off t ∧ t.length ≤ cap ∧ t.length ≤ 140737488355328 := by
  obtain ⟨b, off, X, hv, _, hc, _, hl⟩ := open_bytes1 hf hk
  exact ⟨b, off, lst len X, (lst_len _ _).symm, vw_of hv, by rw [lst_len]; exact hc, by rw [lst_len]; omega⟩
end Go.Proofs.YtlhllbggnpcoaaaGreatDoor

/-
  An argument of 32 bytes, opened.
-/
namespace Go.Proofs.YtlhllbggnpcoaaaGreatDoor
open Go.ChangeShapes Go.WideShapes Go.ChangeAt Go.RowKit

theorem cellsH : Tryz.prog.cellsOf 31 = 32 := by kernel_rfl
theorem okWide_array {P : Program} {w : World} {r : Reach} {base : Nat} {t : TypeId} {v : Value} {n : Nat} {e : TypeId} (ht : P.underlying t = some (.array n e)) (h : Value.okWide P w r base t v) : ∃ cs, v = .agg cs ∧ cs.size = P.cellsOf t := by
  unfold Value.okWide at h
  rw [ht] at h
  obtain ⟨cs, h1, h2, _⟩ := h
  exact ⟨cs, h1, h2⟩
theorem trod_array {H : Type} {enc : TypeId × Value → H} {P : Program} {w : World} {base : Nat} {sp : Nat → Bool} {held : Bool} {fuel : Nat} {t e : TypeId} {n : Nat} {cs : List Value} {x : DataW H × List MemPlace} (ht : P.underlying t = some (.array n e))
    (h : DataW.trod enc P w base sp held fuel t cs = some x) : ∃ ds p, x = (.agg ds, p) := by
  cases fuel with
  | zero => simp [DataW.trod] at h
  | succ fuel =>
    simp only [DataW.trod, ht] at h
    split at h
    · obtain ⟨xs, hm, hx⟩ := Option.map_eq_some_iff.1 h
      exact ⟨_, _, hx.symm⟩
    · cases h
def bval : Value → Nat
  | .int _ n => n.toNat % 256
  | _ => 0
/-- AN ARGUMENT OF TYPE Hash. -/
theorem open_hash0 {H : Type} {enc : TypeId × Value → H} {W : World} {fuel : Nat} {cs : Array Value} {d : DataW H} {p : List MemPlace} (hs : cs.size = 32)
    (hf : DataW.trod enc Tryz.prog W 0 (fun _ => true) true fuel 31 cs.toList = some (d, p)) : ∃ F : Nat → Nat, cs = arrA F ∧ ∀ i, F i < 256 := by
  refine ⟨fun i => bval (cs.getD i (.int .u8 0)), ?_, fun i => ?_⟩
  · obtain ⟨ds, q, hx⟩ := trod_array Tryz.underlying31 hf
    rw [hx] at hf
    apply Array.ext_getElem?
    intro i
    by_cases hi : i < 32
    · rw [arrA_cell _ i hi]
      obtain ⟨fuel', d', q', _, htr⟩ := Lib.array_elem Tryz.underlying31 hf i hi
      rw [cells5, Nat.mul_one, List.drop_eq_getElem_cons (by simp; omega)] at htr
      simp only [List.take_succ_cons, List.take_zero, Array.getElem_toList] at htr
      obtain ⟨z, hz, _, hw⟩ := DataW.trod_int Tryz.underlying5 htr
      injection hz with hz
      rw [Array.getElem?_eq_getElem (by omega), Array.getD_eq_getD_getElem?, Array.getElem?_eq_getElem (by omega), hz]
      have b : 0 ≤ z ∧ z ≤ 255 := by
        simp [Lit.wf, IntKind.min, IntKind.max, IntKind.bits, IntKind.signed] at hw
        omega
      show some (Value.int .u8 z) = some (Value.int .u8 (((z.toNat % 256 : Nat)) : Int))
      congr 2
      omega
    · rw [Array.getElem?_eq_none (by omega), Array.getElem?_eq_none (by rw [arrA_size]; omega)]
  · show bval _ < 256
    unfold bval
    split
    · exact Nat.mod_lt _ (by decide)
    · decide

set_option maxRecDepth 100000 in
/-- so told as a list -/
theorem open_hash {H : Type} {enc : TypeId × Value → H} {W : World} {base fuel : Nat} {v : Value} {d : DataW H} {p : List MemPlace} (hv : Value.okWide Tryz.prog W .any base 31 v)
    (hf : DataW.trod enc Tryz.prog W 0 (fun _ => true) true fuel 31 v.cells.toList = some (d, p)) : ∃ k, v = .agg (hA k) ∧ IsH k := by
  obtain ⟨cs, rfl, hs⟩ := okWide_array Tryz.underlying31 hv
  rw [cellsH] at hs
  obtain ⟨F, rfl, hF⟩ := open_hash0 hs hf
  have hk : IsH (lst 32 F) := isH_lst hF
  refine ⟨lst 32 F, ?_, hk⟩
  rw [← arrA_hA hk]
  have e : arrA (gd (lst 32 F)) = arrA F := by
    apply Array.ext_getElem?
    intro i
    by_cases hi : i < 32
    · rw [arrA_cell _ i hi, arrA_cell _ i hi, lst_gd hi]
    · rw [Array.getElem?_eq_none (by rw [arrA_size]; omega), Array.getElem?_eq_none (by rw [arrA_size]; omega)]
  rw [e]
end Go.Proofs.YtlhllbggnpcoaaaGreatDoor

/-
  DigestBooks' argument, opened.
-/
namespace Go.Proofs.YtlhllbggnpcoaaaGreatDoor
open Go.ChangeShapes Go.WideShapes Go.ChangeAt Go.RowKit

theorem cellsB1 : Tryz.prog.cellsOf 26 = 1 := by kernel_rfl
theorem cellsO : Tryz.prog.cellsOf 49 = 34 := by kernel_rfl
theorem cellsP : Tryz.prog.cellsOf 41 = 4 := by kernel_rfl
theorem cellsI3 : Tryz.prog.cellsOf 3 = 1 := by kernel_rfl
theorem cellsS : Tryz.prog.cellsOf 39 = 1 := by kernel_rfl
theorem underO : ∃ f0 f1 f2 : Field, Tryz.prog.underlying 49 = some (.struct #[f0, f1, f2]) ∧ (f0.type = 3 ∧ f0.offset = 0) ∧ (f1.type = 26 ∧ f1.offset = 1) ∧ (f2.type = 31 ∧ f2.offset = 2) :=
  ⟨_, _, _, Tryz.underlying49, ⟨rfl, rfl⟩, ⟨rfl, rfl⟩, rfl, rfl⟩
theorem underP : ∃ f0 f1 f2 f3 : Field, Tryz.prog.underlying 41 = some (.struct #[f0, f1, f2, f3]) ∧ (f0.type = 3 ∧ f0.offset = 0) ∧ (f1.type = 3 ∧ f1.offset = 1) ∧ (f2.type = 26 ∧ f2.offset = 2) ∧ (f3.type = 39 ∧ f3.offset = 3) :=
  ⟨_, _, _, _, Tryz.underlying41, ⟨rfl, rfl⟩, ⟨rfl, rfl⟩, ⟨rfl, rfl⟩, rfl, rfl⟩
theorem oaddr_at {w : World} {a : Addr} {v : Value} (h : w.cell? (a.add 0) = some v) : a = ⟨a.block, a.off, none⟩ := by
  obtain ⟨bl, o, sp⟩ := a
  cases sp with
  | none => rfl
  | some x =>
    exfalso
    have e : (⟨bl, o, some x⟩ : Addr).add 0 = ⟨bl, o, some x⟩ := by unfold Addr.add; simp
    rw [e] at h
    unfold World.cell? at h
    split at h <;> simp at h
theorem wall_mem4 {H : Type} {P : Program} {e : TypeId} : ∀ {l : List (DataW H)} {d : DataW H}, d ∈ l → ∀ n ∈ d.weights P e, n ∈ DataW.weightsAll P e l
  | x :: l, d, h, n, hn => by
    simp only [DataW.weightsAll, List.mem_append]
    rcases List.mem_cons.1 h with rfl | h
    · exact Or.inl hn
    · exact Or.inr (wall_mem4 h n hn)
theorem reach4 : reachBytes = 140737488351232 := by decide
/-- bytes, one cell of another thing -/
theorem open_bytesW {H : Type} {enc : TypeId × Value → H} {W : World} {fuel : Nat} {v : Value} {d : DataW H} {p : List MemPlace}
    (hf : DataW.trod enc Tryz.prog W 0 (fun _ => true) true fuel 26 [v] = some (d, p)) (hk : ∀ n ∈ d.weights Tryz.prog 26, n ≤ reachBytes) :
    ∃ (a : Option Addr) (b off c : Nat) (t : List Nat), v = .slice a t.length c ∧ Vw W a b off t ∧ t.length ≤ c ∧ (a = none → c = 0) ∧ t.length ≤ 140737488351232 := by
  obtain ⟨a0, len, cap, rfl⟩ : ∃ a0 len cap, v = .slice a0 len cap := by
    rcases open_ints Tryz.underlying26 Tryz.underlying5 cells5 hf with ⟨hcs, _⟩ | ⟨a, len', cap', zs, hcs, _⟩
    · exact ⟨none, 0, 0, by simpa using hcs⟩
    · exact ⟨some a, len', cap', by simpa using hcs⟩
  obtain ⟨b, off, X, hv, _, hc, hn, hl⟩ := open_bytes1 hf (fun es sp e => by
    have q := hk ((es.length + sp.length) * Tryz.prog.bytesOf 5) (by
      rw [e]
      simp only [DataW.weights, Tryz.underlying26]
      exact List.mem_cons_self)
    rw [bytes5, Nat.mul_one, reach4] at q
    exact q)
  exact ⟨a0, b, off, cap, lst len X, by rw [lst_len], vw_of hv, by rw [lst_len]; exact hc, hn, by rw [lst_len]; exact hl⟩
/-- 32 bytes, as they lie -/
theorem open_hashL {H : Type} {enc : TypeId × Value → H} {W : World} {fuel : Nat} {cs : List Value} {d : DataW H} {p : List MemPlace} (hs : cs.length = 32)
    (hf : DataW.trod enc Tryz.prog W 0 (fun _ => true) true fuel 31 cs = some (d, p)) : ∃ k, cs = bv k ∧ IsH k := by
  obtain ⟨F, e, hF⟩ := open_hash0 (cs := cs.toArray) (by simpa using hs) (by simpa using hf)
  have hk : IsH (lst 32 F) := isH_lst hF
  refine ⟨lst 32 F, ?_, hk⟩
  have e2 : arrA F = hA (lst 32 F) := hA_of (arrA_size F) (arrA_cell F)
  rw [e2] at e
  have := congrArg Array.toList e
  simpa [hA] using this

set_option maxRecDepth 100000 in
/-- THE SCRIPT -/
theorem open_scr {H : Type} {enc : TypeId × Value → H} {W : World} {fuel : Nat} {v : Value} {d : DataW H} {p : List MemPlace}
    (hf : DataW.trod enc Tryz.prog W 0 (fun _ => true) true fuel 39 [v] = some (d, p)) (hk : ∀ n ∈ d.weights Tryz.prog 39, n ≤ reachBytes) :
    ∃ (pa : Option Addr) (pn pc : Nat), v = .slice pa pn pc ∧ Scr W pa pn := by
  rcases Deep.open_slice Tryz.underlying39 hf with ⟨hcs, hx⟩ | ⟨a, len, cap, m, n, D, Pl, hcs, _, hl, hm, hmm, hx, hr⟩
  · simp only [List.cons.injEq, and_true] at hcs
    exact ⟨none, 0, 0, hcs, fun i hi => by omega⟩
  · simp only [List.cons.injEq, and_true] at hcs
    simp only [if_true] at hmm
    subst hmm
    simp only [Prod.mk.injEq] at hx
    refine ⟨some a, len, m, hcs, fun i hi => ?_⟩
    obtain ⟨cs', h1, h2⟩ := hr i (by omega)
    obtain ⟨f0, f1, f2, hu, ⟨t0, o0⟩, ⟨t1, o1⟩, t2, o2⟩ := underO
    rw [cellsO] at h1
    obtain ⟨_, hlen, hcell⟩ := World.cells?_some h1
    obtain ⟨xs, k0, _, hxy, _, hxl, hg⟩ := DataW.trod_struct hu h2
    obtain ⟨v0, v1, rest, ecs⟩ : ∃ v0 v1 rest, cs' = v0 :: v1 :: rest := by
      cases cs' with
      | nil => simp at hlen
      | cons v0 r =>
        cases r with
        | nil => simp at hlen
        | cons v1 rest => exact ⟨_, _, _, rfl⟩
    subst ecs
    match xs, hxl with
    | [y0, y1, y2], _ =>
      have hrl : rest.length = 32 := by simpa using hlen
      have g0 := hg 0 f0 rfl
      have g1 := hg 1 f1 rfl
      have g2 := hg 2 f2 rfl
      simp [t0, o0, t1, o1, t2, o2, cellsI3, cellsB1, cellsH] at g0 g1 g2
      rw [List.take_of_length_le (by omega)] at g2
      obtain ⟨n0, c0, _, _⟩ := DataW.trod_int Tryz.underlying3 g0
      simp only [Prod.mk.injEq] at hxy
      have hw : ∀ n ∈ y1.1.weights Tryz.prog 26, n ≤ reachBytes := fun n hn => by
        refine hk n ?_
        rw [hx.1]
        simp only [DataW.weights, Tryz.underlying39]
        refine List.mem_cons_of_mem _ (List.mem_append_left _ (wall_mem4 (d := D i) (List.mem_map.2 ⟨i, List.mem_range.2 hi, rfl⟩) _ ?_))
        rw [hxy.1]
        simp only [DataW.weights, hu, List.map_cons, List.map_nil, DataW.weightsEach, t0, t1, t2]
        exact List.mem_append_right _ (List.mem_append_left _ hn)
      obtain ⟨ra, rb, ro, rc, t, c1, vw, hc, hn, hl⟩ := open_bytesW (d := y1.1) (p := y1.2) g1 hw
      obtain ⟨k, c2, hkH⟩ := open_hashL (d := y2.1) (p := y2.2) hrl g2
      simp only [List.cons.injEq, and_true] at c0
      subst c0 c1 c2
      have ea : a = ⟨a.block, a.off, none⟩ := by
        obtain ⟨cs0, z1, _⟩ := hr 0 (by omega)
        rw [cellsO] at z1
        obtain ⟨_, zl, zc⟩ := World.cells?_some z1
        have z := zc 0 (by omega)
        rw [Nat.zero_mul, Deep.add_add, Nat.add_zero] at z
        rw [List.getElem?_eq_getElem (by omega)] at z
        exact oaddr_at z
      refine ⟨a.block, a.off, n0, ra, rb, ro, rc, t, k, congrArg some ea, fun j u hu => ?_, vw, hc, hn, hl, hkH⟩
      have hj : j < 34 := by
        obtain ⟨q, _⟩ := List.getElem?_eq_some_iff.1 hu
        simp [bv_len, hkH.1] at q
        omega
      have c := hcell j (by omega)
      rw [Deep.add_add, ea, add_plain] at c
      have c' : W.cell? ⟨a.block, a.off + (i * 34 + j), none⟩ = some u := c.trans hu
      rw [show a.off + i * 34 + j = a.off + (i * 34 + j) by omega]
      exact c'
set_option maxRecDepth 100000 in
/-- AN ARGUMENT OF TYPE Play -/
theorem open_play {H : Type} {enc : TypeId × Value → H} {W : World} {base : Nat} {v : Value} {d : DataW H} {p : List MemPlace}
    (hv : Value.okWide Tryz.prog W .any base 41 v) (h : DataW.Trod enc Tryz.prog W 0 (fun _ => true) true 41 v d p) (hk : ∀ n ∈ d.weights Tryz.prog 41, n ≤ reachBytes) :
    ∃ (bits cbits : Int) (sa : Option Addr) (sB so sc : Nat) (S : List Nat) (pa : Option Addr) (pn pc : Nat), v = .agg (plc bits cbits sa S.length sc pa pn pc) ∧ Vw W sa sB so S ∧ (sa = none → sc = 0) ∧ S.length ≤ 140737488351232 ∧ Scr W pa pn := by
  obtain ⟨f0, f1, f2, f3, hu, ⟨t0, o0⟩, ⟨t1, o1⟩, ⟨t2, o2⟩, t3, o3⟩ := underP
  obtain ⟨cs, rfl, hsz⟩ := okWide_struct hu hv
  obtain ⟨fuel, hf⟩ := h
  rw [cellsP] at hsz
  obtain ⟨c0, c1, c2, c3, hcs⟩ : ∃ c0 c1 c2 c3, cs.toList = [c0, c1, c2, c3] := by
    have : cs.toList.length = 4 := by simpa using hsz
    match cs.toList, this with
    | [c0, c1, c2, c3], _ => exact ⟨c0, c1, c2, c3, rfl⟩
  have hcs' : cs = #[c0, c1, c2, c3] := by cases cs; simp_all
  subst hcs'
  simp only [Value.cells] at hf
  obtain ⟨xs, n0, _, hx, _, hlen, hg⟩ := DataW.trod_struct hu hf
  match xs, hlen with
  | [y0, y1, y2, y3], _ =>
    have g0 := hg 0 f0 rfl
    have g1 := hg 1 f1 rfl
    have g2 := hg 2 f2 rfl
    have g3 := hg 3 f3 rfl
    simp [t0, o0, t1, o1, t2, o2, t3, o3, cellsI3, cellsB1, cellsS] at g0 g1 g2 g3
    simp only [Prod.mk.injEq] at hx
    have hw : DataW.weightsEach Tryz.prog [3, 3, 26, 39] [y0.1, y1.1, y2.1, y3.1] = d.weights Tryz.prog 41 := by
      rw [hx.1]
      simp only [DataW.weights, hu, List.map_cons, List.map_nil, t0, t1, t2, t3]
    obtain ⟨b0, e0, _, _⟩ := DataW.trod_int Tryz.underlying3 g0
    obtain ⟨b1, e1, _, _⟩ := DataW.trod_int Tryz.underlying3 g1
    obtain ⟨sa, sB, so, sc, S, e2, vw, _, hn, hl⟩ := open_bytesW (d := y2.1) (p := y2.2) g2 (fun n hn => hk n (by
      rw [← hw]
      simp only [DataW.weightsEach]
      exact List.mem_append_right _ (List.mem_append_right _ (List.mem_append_left _ hn))))
    obtain ⟨pa, pn, pc, e3, sr⟩ := open_scr (d := y3.1) (p := y3.2) g3 (fun n hn => hk n (by
      rw [← hw]
      simp only [DataW.weightsEach]
      exact List.mem_append_right _ (List.mem_append_right _ (List.mem_append_right _ (List.mem_append_left _ hn)))))
    simp only [List.cons.injEq, and_true] at e0 e1
    subst e0 e1 e2 e3
    exact ⟨b0, b1, sa, sB, so, sc, S, pa, pn, pc, rfl, vw, hn, hl, sr⟩
end Go.Proofs.YtlhllbggnpcoaaaGreatDoor

/-
  A world for the witnesses.
-/
namespace Go.Proofs.YtlhllbggnpcoaaaGreatDoor

def setCells (c : Array Value) : Obj → Obj
  | .cells _ t frozen => .cells c t frozen
  | o => o
/-- A WORLD FOR THE WITNESS: the settled one, the tables holding what their initialisers lay. -/
def LaidIs (os : Os) (V : World) : Prop := V = { World.holding Tryz.prog os ⟨#[], #[], []⟩ with heap := ((((World.holding Tryz.prog os ⟨#[], #[], []⟩).heap.modify 0 (setCells #[.int .u32 1779033703, .int .u32 3144134277, .int .u32 1013904242, .int .u32 2773480762, .int .u32 1359893119, .int .u32 2600822924, .int .u32 528734635, .int .u32 1541459225])).modify 2 (setCells #[.int .u32 1116352408, .int .u32 1899447441, .int .u32 3049323471, .int .u32 3921009573, .int .u32 961987163, .int .u32 1508970993, .int .u32 2453635748, .int .u32 2870763221, .int .u32 3624381080, .int .u32 310598401, .int .u32 607225278, .int .u32 1426881987, .int .u32 1925078388, .int .u32 2162078206, .int .u32 2614888103, .int .u32 3248222580, .int .u32 3835390401, .int .u32 4022224774, .int .u32 264347078, .int .u32 604807628, .int .u32 770255983, .int .u32 1249150122, .int .u32 1555081692, .int .u32 1996064986, .int .u32 2554220882, .int .u32 2821834349, .int .u32 2952996808, .int .u32 3210313671, .int .u32 3336571891, .int .u32 3584528711, .int .u32 113926993, .int .u32 338241895, .int .u32 666307205, .int .u32 773529912, .int .u32 1294757372, .int .u32 1396182291, .int .u32 1695183700, .int .u32 1986661051, .int .u32 2177026350, .int .u32 2456956037, .int .u32 2730485921, .int .u32 2820302411, .int .u32 3259730800, .int .u32 3345764771, .int .u32 3516065817, .int .u32 3600352804, .int .u32 4094571909, .int .u32 275423344, .int .u32 430227734, .int .u32 506948616, .int .u32 659060556, .int .u32 883997877, .int .u32 958139571, .int .u32 1322822218, .int .u32 1537002063, .int .u32 1747873779, .int .u32 1955562222, .int .u32 2024104815, .int .u32 2227730452, .int .u32 2361852424, .int .u32 2428436474, .int .u32 2756734187, .int .u32 3204031479, .int .u32 3329325298])).modify 3 (setCells #[.int .u32 1116352408, .int .u32 1899447441, .int .u32 3049323471, .int .u32 3921009573, .int .u32 961987163, .int .u32 1508970993, .int .u32 2453635748, .int .u32 2870763221, .int .u32 3624381080, .int .u32 310598401, .int .u32 607225278, .int .u32 1426881987, .int .u32 1925078388, .int .u32 2162078206, .int .u32 2614888103, .int .u32 3248222580, .int .u32 3835390401, .int .u32 4022224774, .int .u32 264347078, .int .u32 604807628, .int .u32 770255983, .int .u32 1249150122, .int .u32 1555081692, .int .u32 1996064986, .int .u32 2554220882, .int .u32 2821834349, .int .u32 2952996808, .int .u32 3210313671, .int .u32 3336571891, .int .u32 3584528711, .int .u32 113926993, .int .u32 338241895, .int .u32 666307205, .int .u32 773529912, .int .u32 1294757372, .int .u32 1396182291, .int .u32 1695183700, .int .u32 1986661051, .int .u32 2177026350, .int .u32 2456956037, .int .u32 2730485921, .int .u32 2820302411, .int .u32 3259730800, .int .u32 3345764771, .int .u32 3516065817, .int .u32 3600352804, .int .u32 4094571909, .int .u32 275423344, .int .u32 430227734, .int .u32 506948616, .int .u32 659060556, .int .u32 883997877, .int .u32 958139571, .int .u32 1322822218, .int .u32 1537002063, .int .u32 1747873779, .int .u32 1955562222, .int .u32 2024104815, .int .u32 2227730452, .int .u32 2361852424, .int .u32 2428436474, .int .u32 2756734187, .int .u32 3204031479, .int .u32 3329325298])) }
end Go.Proofs.YtlhllbggnpcoaaaGreatDoor

/-
  DigestBooks: the row and the card.
-/
namespace Go.Proofs.YtlhllbggnpcoaaaGreatDoor
open Go.ChangeShapes Go.WideShapes Go.ChangeAt Go.RowKit

theorem gRounds : Tryz.prog.globalNamed "cairn/cairnref02.rounds" = some 3 := by kernel_rfl
theorem tRounds : (Tryz.prog.globals[3]?).map (·.type) = some 144 := by kernel_rfl
theorem rounds {W : World} {l : List (String × DataW Unit)} (h : laidMet Tryz.prog l W) (m : ("cairn/cairnref02.rounds", Rows.laid_cairn_cairnref02_rounds) ∈ l) : Rounds W := by
  have t : Lib.TabIs Tryz.prog W "cairn/cairnref02.rounds" .u32 KI := tab_of gRounds tRounds Tryz.underlying144 Tryz.underlying59 cells50 cells62 (Lib.laidMet.reads h m)
  intro i hi
  have c := t.cell gRounds i hi
  rw [c, KI_at i hi]

namespace digestBooks
open Go.ChangeShapes Go.WideShapes Go.ChangeAt Go.RowKit

set_option maxRecDepth 100000 in
theorem contract (H : Type) (enc : TypeId × Value → H) (W : World) (base : Nat) (args : Array Value) (ds gs : List (DataW H)) (before : List MemPlace)
    (hval : ∀ (j : Nat) t v, Tryz.f4.params[j]? = some t → args[j]? = some v → Value.okWide Tryz.prog W .any base t v)
    (hW : DataW.Whole enc Tryz.prog Tryz.f4.params.toList Rows.digestBooksSpec.vars false W args.toList ds gs before)
    (hsz0 : (DataW.weightsEach Tryz.prog (Tryz.f4.params.toList ++ (OpenSpec.ofChange Rows.digestBooksSpec).bare.plain.varTypes Tryz.prog) (ds ++ gs)).all (· ≤ reachBytes) = true)
    (hL : laidMetH Tryz.prog Rows.digestBooksRow.laid W) :
    Calls Tryz.prog 4 args W fun e W' => ∃ v, e = .returned v ∧ Rows.digestBooksSpec.post enc Tryz.prog Tryz.f4 false true false false W args v W' := by
  have hW' := hW
  obtain ⟨p, q, hA0, hV, rfl, hfz, hnd⟩ := hW
  have hA : DataW.TrodAll enc Tryz.prog W 0 (fun _ => true) true Tryz.f4.params.toList args.toList ds p := hA0
  have hsz : (DataW.weightsEach Tryz.prog (Tryz.f4.params.toList ++ []) (ds ++ gs)).all (· ≤ reachBytes) = true := hsz0
  rw [Tryz.params4] at hA hval hsz
  obtain ⟨v0, vs0, d0, ds0, p0, q0, hargs, rfl, rfl, h0, r0⟩ := trodAll_cons hA
  obtain ⟨rfl, rfl, rfl⟩ := trodAll_nil r0
  obtain rfl : args = #[v0] := by cases args; simp_all
  obtain ⟨rfl, rfl⟩ := trodVars_none hV
  have h0k := h0
  clear hA0 hsz0
  simp only [List.append_nil] at hW' hsz
  have hlt : ∀ x ∈ p0, x.block < W.heap.size := fun x hx => by simpa using hW'.lt x (by simpa using hx)
  have hk : ∀ n ∈ d0.weights Tryz.prog 41, n ≤ reachBytes := fun n hn => by
    have := List.all_eq_true.1 hsz n (by simp only [DataW.weightsEach]; exact List.mem_append_left _ hn)
    exact of_decide_eq_true this
  obtain ⟨bits, cbits, sa, sB, so, sc, S, pa, pn, pc, rfl, vw, hn, hl, sr⟩ := open_play (hval 0 41 v0 rfl rfl) h0 hk
  have R := rounds (l := Rows.digestBooksRow.laid) hL (.head _)
  have G := ground (l := Rows.digestBooksRow.laid) hL (.tail _ (.head _)) (.tail _ (.tail _ (.head _)))
  refine (books_any W ⟨G, R, World.block_lt_of_cell? _ _ (R 0 (by decide))⟩ bits cbits sa sB so sc S vw hn hl pa pn pc sr).mono fun e W' ⟨he, hg⟩ => ?_
  subst he
  refine ⟨_, rfl, _, _, _, [], _, [], hW', trodAll_cons_mk (shut_bool Tryz.underlying4 _) trodAll_mk0,
    trodAll_mk1 (Below.trod laidOut (by kernel_rfl) (of_decide_eq_true (by kernel_rfl)) h0k hg hlt), rfl, hg.frame _, fun h => by cases h⟩

theorem laid_met (os : Os) {V : World} (h : LaidIs os V) : laidMet Tryz.prog Rows.digestBooksRow.laid (V.forCall (fun _ _ => 0) ⟨#[], #[.agg (plc 0 0 none 0 0 none 0 0)], []⟩).memory := by
  subst h
  exact laidMet_of_run' 8 (by kernel_rfl) (by kernel_rfl)
theorem reads (os : Os) {V : World} (h : LaidIs os V) {H : Type} (enc : TypeId × Value → H) : ∃ places, DataW.whole enc Tryz.prog (V.forCall (fun _ _ => 0) ⟨#[], #[.agg (plc 0 0 none 0 0 none 0 0)], []⟩).memory Tryz.f4.params.toList Rows.digestBooksSpec.vars false (#[.agg (plc 0 0 none 0 0 none 0 0)] : Array Value).toList 8 = some ([.agg [.lit (.int .i64 0), .lit (.int .i64 0), .nil, .nil]], [], places) := by
  subst h
  exact ⟨[], by kernel_rfl⟩

set_option maxRecDepth 100000 in
theorem lifted (os : Os) (started : os.Started) (H : Type) (enc : TypeId × Value → H) (F : Stop.Interp) :
    ReturnsInHanded {} Tryz.checked os 4 .any ((OpenSpec.ofChange Rows.digestBooksSpec).preRow enc Tryz.prog Tryz.f4 Rows.digestBooksRow.domain false Rows.digestBooksRow.laid) (((OpenSpec.ofChange Rows.digestBooksSpec).at F).post enc Tryz.prog Tryz.f4 false true false false) := by
  obtain ⟨places, hx⟩ := reads os rfl enc
  refine returnsInHanded_of_row (C := Tryz.checked) (s := OpenSpec.ofChange Rows.digestBooksSpec) own started (by kernel_rfl) Tryz.func4
    (witness_row_at (enc := enc) (C := Tryz.checked) false _ #[.agg (plc 0 0 none 0 0 none 0 0)] rfl (by kernel_rfl) (by kernel_rfl) (by kernel_rfl)
      (OpenSpec.preRow_of_cond 8 hx (by kernel_rfl) (fun k hk => by cases hk) (by kernel_rfl) (laid_met os rfl))) ?_
  intro W base args ds gs before hval hW _ _ hsz hL _ _
  exact contract H enc W base args ds gs before hval hW hsz hL

theorem said : Rows.DigestBooksSaid :=
  OpenClaim.holds_of_cond 4 Tryz.f4 rfl rfl rfl rfl rfl rfl rfl ⟨rfl, rfl, rfl, rfl, rfl⟩ rfl rfl rfl rfl rfl (by kernel_rfl) Tryz.func4 (by kernel_rfl)
    (of_decide_eq_true (by kernel_rfl)) (by unfold Func.isWrapper; first | (rw [if_pos (by decide +kernel)]; kernel_rfl) | (rw [if_neg (by decide +kernel)]; exact ⟨rfl, rfl⟩))
    (fun os started H enc _ F => by rw [OpenClaim.pre_eq_preRow]; exact lifted os started H enc F)

theorem plain (f : FuncId) (fn : Func) (hf : Tryz.pinned.checked.prog.funcNamed "cairn/cairnlaw04.DigestBooks" = some f) (hfn : Tryz.pinned.checked.prog.funcs[f]? = some fn) :
    false = Tryz.pinned.checked.prog.looks [] ∧ ∀ (j : Nat) t, fn.params[j]? = some t → Tryz.pinned.checked.prog.wantsStandIn t = false := by
  obtain rfl : f = 4 := Option.some.inj ((show Tryz.prog.funcNamed "cairn/cairnlaw04.DigestBooks" = some 4 by kernel_rfl).symm.trans hf) |>.symm
  obtain rfl : fn = Tryz.f4 := (Option.some.inj (Tryz.func4.symm.trans hfn)).symm
  refine ⟨by kernel_rfl, fun j t ht => ?_⟩
  rw [Tryz.params4] at ht
  obtain rfl : t = 41 := by simpa using Array.mem_of_getElem? ht
  exact (show Tryz.prog.wantsStandIn 41 = false by kernel_rfl)

theorem card : Rows.DigestBooksCardSaid :=
  Claim7.holds_tied_plain_at .later [] _ _ _ _ said (fun _ h => by cases h) (by kernel_rfl) (fun _ h => by cases h) digestBooks_row_tie rfl ⟨rfl, rfl⟩ (by kernel_rfl) rfl plain (by kernel_rfl)

end digestBooks
theorem digestBooks_holds : Rows.DigestBooksCardSaid := digestBooks.card
end Go.Proofs.YtlhllbggnpcoaaaGreatDoor
