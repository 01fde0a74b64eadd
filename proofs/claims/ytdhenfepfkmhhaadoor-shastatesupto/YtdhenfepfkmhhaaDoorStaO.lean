/-
  ShaStates: the script, opened.
-/
import Derived.Test.YtdhenfepfkmhhaaDoorStaL
import Derived.Test.YtdhenfepfkmhhaaDoorOpen
import Derived.Deep.SlicePairs
namespace Go.Proofs.YtdhenfepfkmhhaaDoor
open Go.ChangeShapes Go.WideShapes Go.ChangeAt Go.RowKit

theorem cells48 : Tryd.prog.cellsOf 48 = 4 := by kernel_rfl
theorem cellsI : Tryd.prog.cellsOf 3 = 1 := by kernel_rfl
theorem under48 : ∃ f0 f1 f2 f3 : Field, Tryd.prog.underlying 48 = some (.struct #[f0, f1, f2, f3]) ∧ (f0.type = 3 ∧ f0.offset = 0) ∧ (f1.type = 3 ∧ f1.offset = 1) ∧ (f2.type = 3 ∧ f2.offset = 2) ∧ (f3.type = 24 ∧ f3.offset = 3) :=
  ⟨_, _, _, _, Tryd.underlying48, ⟨rfl, rfl⟩, ⟨rfl, rfl⟩, ⟨rfl, rfl⟩, rfl, rfl⟩
theorem bulk_mem {H : Type} {d : DataW H} : ∀ {l : List (DataW H)}, d ∈ l → Rows.uptoBulk d ≤ Rows.uptoBulkAll l
  | x :: r, h => by
    simp only [Rows.uptoBulkAll]
    rcases List.mem_cons.1 h with e | e
    · subst e; omega
    · have := bulk_mem e; omega
/-- a list of bytes, one cell of another thing -/
theorem open_row {H : Type} {enc : TypeId × Value → H} {W : World} {fuel : Nat} {v : Value} {d : DataW H} {p : List MemPlace}
    (hf : DataW.trod enc Tryd.prog W 0 (fun _ => true) true fuel 24 [v] = some (d, p)) (hk : Rows.uptoBulk d ≤ 1048576) :
    ∃ (a : Option Addr) (b off len cap : Nat) (X : Nat → Nat), v = .slice a len cap ∧ View W a b off len (fun i => (X i : Int)) ∧ (∀ i, X i < 256) ∧ len ≤ Rows.uptoBulk d ∧ (a = none → cap = 0) := by
  rcases open_ints Tryd.underlying24 Tryd.underlying5 cells5 hf with ⟨hcs, hx⟩ | ⟨a, len, cap, zs, hcs, _, hl, hm, hz, hx, hcell, hwz⟩
  · simp only [List.cons.injEq, and_true] at hcs
    exact ⟨none, 0, 0, 0, 0, fun _ => 0, hcs, view_empty _ _ _ _ _ _ rfl, fun _ => (by decide : 0 < 256), by omega, fun _ => rfl⟩
  · simp only [List.cons.injEq, and_true] at hcs
    simp only [Prod.mk.injEq] at hx
    simp only [if_true] at hz
    have hlen : len ≤ Rows.uptoBulk d := by
      rw [hx.1]
      have a1 := bulk_len (H := H) (lits .u8 (zs.take len))
      have e : (lits (H := H) .u8 (zs.take len)).length = len := by simp [lits]; omega
      simp only [Rows.uptoBulk]
      omega
    by_cases h0 : 0 < len
    · obtain ⟨b, off, rfl, hc⟩ := ints_at hcell (by omega)
      have bd : ∀ j, 0 ≤ zs.getD j 0 ∧ zs.getD j 0 ≤ 255 := fun j => by
        have := range_u8 hwz j
        simpa [List.getD] using this
      refine ⟨_, b, off, len, cap, fun i => (zs.getD i 0).toNat % 256, hcs, ⟨fun _ => rfl, fun i hi => ?_, fun i hi => ?_, by omega⟩, fun i => Nat.mod_lt _ (by decide), hlen, fun h => by cases h⟩
      · have c := hc i (by omega)
        rw [c]
        have b1 := bd i
        show some (Value.int .u8 (zs.getD i 0)) = some (Value.int .u8 ((((zs.getD i 0).toNat % 256 : Nat)) : Int))
        congr 2
        omega
      · have := Nat.mod_lt (zs.getD i 0).toNat (show 0 < 256 by decide)
        show 0 ≤ ((((zs.getD i 0).toNat % 256 : Nat)) : Int) ∧ ((((zs.getD i 0).toNat % 256 : Nat)) : Int) ≤ 255
        omega
    · exact ⟨some a, 0, 0, len, cap, fun _ => 0, hcs, view_empty _ _ _ _ _ _ (by omega), fun _ => (by decide : 0 < 256), hlen, fun h => by cases h⟩

/-- one step of the script, as it was read -/
structure Op1 where
  ki : Int
  wi : Int
  ti : Int
  a : Option Addr
  b : Nat
  o : Nat
  m : Nat
  c : Nat
  y : Nat → Nat
instance : Inhabited Op1 := ⟨⟨0, 0, 0, none, 0, 0, 0, 0, fun _ => 0⟩⟩

/-- AN ARGUMENT OF TYPE []Op. -/
theorem open_script {H : Type} {enc : TypeId × Value → H} {W : World} {fuel : Nat} {a0 : Option Addr} {len cap : Nat} {d : DataW H} {p : List MemPlace}
    (hf : DataW.trod enc Tryd.prog W 0 (fun _ => true) true fuel 44 [Value.slice a0 len cap] = some (d, p)) (hk : Rows.uptoBulk d ≤ 1048576) :
    ∃ (pb po : Nat) (Ki Wi Ti : Nat → Int) (BA : Nat → Option Addr) (bB bO bM bC : Nat → Nat) (BY : Nat → Nat → Nat), Scr W a0 pb po len Ki Wi Ti BA bB bO bM bC BY ∧ len ≤ 1048576 ∧ tot bM len ≤ 1048576 := by
  rcases Deep.open_slice Tryd.underlying44 hf with ⟨hcs, hx⟩ | ⟨a, len', cap', m, n, D, Pl, hcs, _, hl, hm, hmm, hx, hr⟩
  · simp only [List.cons.injEq, Value.slice.injEq, and_true] at hcs
    obtain ⟨rfl, rfl, rfl⟩ := hcs
    exact ⟨0, 0, fun _ => 0, fun _ => 0, fun _ => 0, fun _ => none, fun _ => 0, fun _ => 0, fun _ => 0, fun _ => 0, fun _ _ => 0, ⟨fun h => absurd h (by omega), fun i h => absurd h (by omega), fun i h => absurd h (by omega), fun i h => absurd h (by omega), fun i h => absurd h (by omega), fun i h => absurd h (by omega), fun i h => absurd h (by omega), fun _ _ => by decide⟩, by omega, by simp [tot]⟩
  · simp only [List.cons.injEq, Value.slice.injEq, and_true] at hcs
    obtain ⟨rfl, rfl, rfl⟩ := hcs
    simp only [if_true] at hmm
    subst hmm
    simp only [Prod.mk.injEq] at hx
    have hd := hx.1
    have bk : Rows.uptoBulkAll ((List.range len).map D) ≤ 1048576 := by
      rw [hd] at hk
      simp only [Rows.uptoBulk] at hk
      omega
    have each : ∀ i, i < len → ∃ x : Op1, W.cell? (a.add (i * 4)) = some (.int .i64 x.ki) ∧ W.cell? (a.add (i * 4 + 1)) = some (.int .i64 x.wi) ∧ W.cell? (a.add (i * 4 + 2)) = some (.int .i64 x.ti) ∧ W.cell? (a.add (i * 4 + 3)) = some (.slice x.a x.m x.c) ∧
        View W x.a x.b x.o x.m (fun j => (x.y j : Int)) ∧ (x.a = none → x.c = 0) ∧ (∀ j, x.y j < 256) ∧ x.m ≤ Rows.uptoBulk (D i) := by
      intro i hi
      obtain ⟨cs', h1, h2⟩ := hr i (by omega)
      obtain ⟨f0, f1, f2, f3, hu, ⟨t0, o0⟩, ⟨t1, o1⟩, ⟨t2, o2⟩, t3, o3⟩ := under48
      rw [cells48] at h1
      obtain ⟨_, hlen, hcell⟩ := World.cells?_some h1
      obtain ⟨xs, k, _, hxy, _, hxl, hg⟩ := DataW.trod_struct hu h2
      match xs, hxl, cs', hlen with
      | [y0, y1, y2, y3], _, [v0, v1, v2, v3], _ =>
        have g0 := hg 0 f0 rfl
        have g1 := hg 1 f1 rfl
        have g2 := hg 2 f2 rfl
        have g3 := hg 3 f3 rfl
        simp [t0, o0, t1, o1, t2, o2, t3, o3, cellsI, cells24] at g0 g1 g2 g3
        have e0 := hcell 0 (by omega)
        have e1 := hcell 1 (by omega)
        have e2 := hcell 2 (by omega)
        have e3 := hcell 3 (by omega)
        rw [Deep.add_add] at e0 e1 e2 e3
        simp only [Prod.mk.injEq] at hxy
        have bD : Rows.uptoBulk y3.1 ≤ Rows.uptoBulk (D i) := by
          rw [hxy.1]
          simp [Rows.uptoBulk, Rows.uptoBulkAll]
          omega
        have bi : Rows.uptoBulk (D i) ≤ 1048576 := Nat.le_trans (bulk_mem (List.mem_map.2 ⟨i, by simpa using hi, rfl⟩)) bk
        obtain ⟨n0, c0, _, _⟩ := DataW.trod_int Tryd.underlying3 g0
        obtain ⟨n1, c1, _, _⟩ := DataW.trod_int Tryd.underlying3 g1
        obtain ⟨n2, c2, _, _⟩ := DataW.trod_int Tryd.underlying3 g2
        obtain ⟨ra, rb, ro, rl, rc, X, c3, vw, hX, hb, hn⟩ := open_row g3 (by omega)
        simp only [List.cons.injEq, and_true] at c0 c1 c2
        subst c0 c1 c2 c3
        exact ⟨⟨n0, n1, n2, ra, rb, ro, rl, rc, X⟩, by simpa using e0, by simpa using e1, by simpa using e2, by simpa using e3, vw, hn, hX, Nat.le_trans hb bD⟩
    obtain ⟨q, hq⟩ := Deep.choose_lt each
    refine ⟨a.block, a.off, fun i => (q i).ki, fun i => (q i).wi, fun i => (q i).ti, fun i => (q i).a, fun i => (q i).b, fun i => (q i).o, fun i => (q i).m, fun i => (q i).c, fun i j => (q i).y j % 256, ⟨fun h0 => ?_, fun i hi => ?_, fun i hi => ?_, fun i hi => ?_, fun i hi => ?_, fun i hi => ?_, fun i hi => (hq i hi).2.2.2.2.2.1, fun i j => Nat.mod_lt _ (by decide)⟩, ?_, ?_⟩
    · have c := (hq 0 h0).1
      rw [Nat.zero_mul] at c
      exact congrArg some (addr_at c)
    · have c := (hq i hi).1
      have z := (hq 0 (by omega)).1
      rw [Nat.zero_mul] at z
      rw [addr_at z, add_plain] at c
      exact c
    · have c := (hq i hi).2.1
      have z := (hq 0 (by omega)).1
      rw [Nat.zero_mul] at z
      rw [addr_at z, add_plain] at c
      exact c
    · have c := (hq i hi).2.2.1
      have z := (hq 0 (by omega)).1
      rw [Nat.zero_mul] at z
      rw [addr_at z, add_plain] at c
      exact c
    · have c := (hq i hi).2.2.2.1
      have z := (hq 0 (by omega)).1
      rw [Nat.zero_mul] at z
      rw [addr_at z, add_plain] at c
      exact c
    · have V := (hq i hi).2.2.2.2.1
      have e : (fun j => (((q i).y j % 256 : Nat) : Int)) = fun j => ((q i).y j : Int) := by
        funext j
        rw [Nat.mod_eq_of_lt ((hq i hi).2.2.2.2.2.2.1 j)]
      show View W (q i).a (q i).b (q i).o (q i).m (fun j => (((q i).y j % 256 : Nat) : Int))
      rw [e]
      exact V
    · have := bulk_len (H := H) ((List.range len).map D)
      simp only [List.length_map, List.length_range] at this
      omega
    · have := bulk_tot D (fun i => (q i).m) len (fun r hr' => (hq r hr').2.2.2.2.2.2.2)
      omega
end Go.Proofs.YtdhenfepfkmhhaaDoor
