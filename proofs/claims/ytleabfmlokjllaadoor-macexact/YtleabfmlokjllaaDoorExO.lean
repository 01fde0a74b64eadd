/-
  MacExact: the script, opened.
-/
import Derived.Test.YtleabfmlokjllaaDoorEx
import Derived.Test.YtleabfmlokjllaaDoorOpen
import Derived.Deep.SlicePairs
namespace Go.Proofs.YtleabfmlokjllaaDoor
open Go.ChangeShapes Go.WideShapes Go.ChangeAt Go.RowKit

theorem cells48 : Tryd.prog.cellsOf 49 = 3 := by kernel_rfl
theorem cellsI : Tryd.prog.cellsOf 3 = 1 := by kernel_rfl
theorem under48 : ∃ f0 f1 f2 : Field, Tryd.prog.underlying 49 = some (.struct #[f0, f1, f2]) ∧ (f0.type = 3 ∧ f0.offset = 0) ∧ (f1.type = 3 ∧ f1.offset = 1) ∧ (f2.type = 22 ∧ f2.offset = 2) :=
  ⟨_, _, _, Tryd.underlying49, ⟨rfl, rfl⟩, ⟨rfl, rfl⟩, rfl, rfl⟩
/-- a list of bytes, one cell of another thing -/
theorem open_row {H : Type} {enc : TypeId × Value → H} {W : World} {fuel : Nat} {v : Value} {d : DataW H} {p : List MemPlace}
    (hf : DataW.trod enc Tryd.prog W 0 (fun _ => true) true fuel 22 [v] = some (d, p)) :
    ∃ (a : Option Addr) (b off len cap : Nat) (X : Nat → Nat), v = .slice a len cap ∧ View W a b off (min len 400) (fun i => (X i : Int)) ∧ (∀ i, X i < 256) ∧ len ≤ cap ∧ (a = none → cap = 0) := by
  rcases open_ints Tryd.underlying22 Tryd.underlying5 cells5 hf with ⟨hcs, _⟩ | ⟨a, len, cap, zs, hcs, _, hl, _, hz, _, hcell, hwz⟩
  · simp only [List.cons.injEq, and_true] at hcs
    exact ⟨none, 0, 0, 0, 0, fun _ => 0, hcs, view_empty _ _ _ _ _ _ rfl, fun _ => (by decide : 0 < 256), by omega, fun _ => rfl⟩
  · simp only [List.cons.injEq, and_true] at hcs
    simp only [if_true] at hz
    by_cases h0 : 0 < len
    · obtain ⟨b, off, rfl, hc⟩ := ints_at hcell (by omega)
      have bd : ∀ j, 0 ≤ zs.getD j 0 ∧ zs.getD j 0 ≤ 255 := fun j => by
        have := range_u8 hwz j
        simpa [List.getD] using this
      refine ⟨_, b, off, len, cap, fun i => (zs.getD i 0).toNat % 256, hcs, ⟨fun _ => rfl, fun i hi => ?_, fun i hi => ?_, by omega⟩, fun i => Nat.mod_lt _ (by decide), hl, fun h => by cases h⟩
      · have c := hc i (by omega)
        rw [c]
        have b1 := bd i
        show some (Value.int .u8 (zs.getD i 0)) = some (Value.int .u8 ((((zs.getD i 0).toNat % 256 : Nat)) : Int))
        congr 2
        omega
      · have := Nat.mod_lt (zs.getD i 0).toNat (show 0 < 256 by decide)
        show 0 ≤ ((((zs.getD i 0).toNat % 256 : Nat)) : Int) ∧ ((((zs.getD i 0).toNat % 256 : Nat)) : Int) ≤ 255
        omega
    · exact ⟨some a, 0, 0, len, cap, fun _ => 0, hcs, view_empty _ _ _ _ _ _ (by omega), fun _ => (by decide : 0 < 256), hl, fun h => by cases h⟩

/-- one step of the script, as it was read -/
structure Op1 where
  ki : Int
  wi : Int
  a : Option Addr
  b : Nat
  o : Nat
  m : Nat
  c : Nat
  y : Nat → Nat
instance : Inhabited Op1 := ⟨⟨0, 0, none, 0, 0, 0, 0, fun _ => 0⟩⟩

/-- AN ARGUMENT OF TYPE []Op. -/
theorem open_script {H : Type} {enc : TypeId × Value → H} {W : World} {fuel : Nat} {a0 : Option Addr} {len cap : Nat} {d : DataW H} {p : List MemPlace}
    (hf : DataW.trod enc Tryd.prog W 0 (fun _ => true) true fuel 39 [Value.slice a0 len cap] = some (d, p)) :
    ∃ (pb po : Nat) (Ki Wi : Nat → Int) (BA : Nat → Option Addr) (bB bO bM bC : Nat → Nat) (BY : Nat → Nat → Nat), Scr W a0 pb po len Ki Wi BA bB bO bM bC BY := by
  rcases Deep.open_slice Tryd.underlying39 hf with ⟨hcs, _⟩ | ⟨a, len', cap', m, n, D, Pl, hcs, _, hl, _, hmm, _, hr⟩
  · simp only [List.cons.injEq, Value.slice.injEq, and_true] at hcs
    obtain ⟨rfl, rfl, rfl⟩ := hcs
    exact ⟨0, 0, fun _ => 0, fun _ => 0, fun _ => none, fun _ => 0, fun _ => 0, fun _ => 0, fun _ => 0, fun _ _ => 0, ⟨fun h => absurd h (by omega), fun i h => absurd h (by omega), fun i h => absurd h (by omega), fun i h => absurd h (by omega), fun i h => absurd h (by omega), fun i h => absurd h (by omega), fun i h => absurd h (by omega), fun _ _ => by decide⟩⟩
  · simp only [List.cons.injEq, Value.slice.injEq, and_true] at hcs
    obtain ⟨rfl, rfl, rfl⟩ := hcs
    simp only [if_true] at hmm
    subst hmm
    have each : ∀ i, i < len → ∃ x : Op1, W.cell? (a.add (i * 3)) = some (.int .i64 x.ki) ∧ W.cell? (a.add (i * 3 + 1)) = some (.int .i64 x.wi) ∧ W.cell? (a.add (i * 3 + 2)) = some (.slice x.a x.m x.c) ∧
        View W x.a x.b x.o (min x.m 400) (fun j => (x.y j : Int)) ∧ (x.a = none → x.c = 0) ∧ (∀ j, x.y j < 256) ∧ x.m ≤ x.c := by
      intro i hi
      obtain ⟨cs', h1, h2⟩ := hr i (by omega)
      obtain ⟨f0, f1, f2, hu, ⟨t0, o0⟩, ⟨t1, o1⟩, t2, o2⟩ := under48
      rw [cells48] at h1
      obtain ⟨_, hlen, hcell⟩ := World.cells?_some h1
      obtain ⟨xs, k, _, hxy, _, hxl, hg⟩ := DataW.trod_struct hu h2
      match xs, hxl, cs', hlen with
      | [y0, y1, y2], _, [v0, v1, v2], _ =>
        have g0 := hg 0 f0 rfl
        have g1 := hg 1 f1 rfl
        have g2 := hg 2 f2 rfl
        simp [t0, o0, t1, o1, t2, o2, cellsI, cells24] at g0 g1 g2
        have e0 := hcell 0 (by omega)
        have e1 := hcell 1 (by omega)
        have e2 := hcell 2 (by omega)
        rw [Deep.add_add] at e0 e1 e2
        obtain ⟨n0, c0, _, _⟩ := DataW.trod_int Tryd.underlying3 g0
        obtain ⟨n1, c1, _, _⟩ := DataW.trod_int Tryd.underlying3 g1
        obtain ⟨ra, rb, ro, rl, rc, X, c2, vw, hX, hb, hn⟩ := open_row g2
        simp only [List.cons.injEq, and_true] at c0 c1
        subst c0 c1 c2
        exact ⟨⟨n0, n1, ra, rb, ro, rl, rc, X⟩, by simpa using e0, by simpa using e1, by simpa using e2, vw, hn, hX, hb⟩
    obtain ⟨q, hq⟩ := Deep.choose_lt each
    refine ⟨a.block, a.off, fun i => (q i).ki, fun i => (q i).wi, fun i => (q i).a, fun i => (q i).b, fun i => (q i).o, fun i => (q i).m, fun i => (q i).c, fun i j => (q i).y j % 256, ⟨fun h0 => ?_, fun i hi => ?_, fun i hi => ?_, fun i hi => ?_, fun i hi => ?_, fun i hi => (hq i hi).2.2.2.2.2.2, fun i hi => (hq i hi).2.2.2.2.1, fun i j => Nat.mod_lt _ (by decide)⟩⟩
    · have c := (hq 0 h0).1
      rw [Nat.zero_mul] at c
      exact congrArg some (addr_at c)
    · have c := (hq i hi).1
      have z := (hq 0 (by omega)).1
      rw [Nat.zero_mul] at z
      rw [addr_at z, add_plain] at c
      exact c
    · have c := (hq i hi).2.1
      have z := (hq 0 (by omega)).1
      rw [Nat.zero_mul] at z
      rw [addr_at z, add_plain] at c
      exact c
    · have c := (hq i hi).2.2.1
      have z := (hq 0 (by omega)).1
      rw [Nat.zero_mul] at z
      rw [addr_at z, add_plain] at c
      exact c
    · have V := (hq i hi).2.2.2.1
      have e : (fun j => (((q i).y j % 256 : Nat) : Int)) = fun j => ((q i).y j : Int) := by
        funext j
        rw [Nat.mod_eq_of_lt ((hq i hi).2.2.2.2.2.1 j)]
      show View W (q i).a (q i).b (q i).o (min (q i).m 400) (fun j => (((q i).y j % 256 : Nat) : Int))
      rw [e]
      exact V
end Go.Proofs.YtleabfmlokjllaaDoor
