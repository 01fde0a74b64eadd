import Derived.Test.YthndmkhdcgdloaaGreatDoorChecked
import Derived.WalkKit
import Derived.Below
import Derived.Deep.OwnRows
import Derived.Deep.LoopGhost
import Derived.Deep.QuietTactic
import Derived.BigQuiet
import Derived.Deep.Light
import Derived.Deep.WholeRow
import Derived.Laws.BytesArg
import Derived.Laws.CopyOwn
import Derived.Maps.RangeWalk
import Derived.Maps.Ext
import Derived.Maps.OwnSet
/-
  A new book, told as a pointer alone: enough for closed sentences that hand a book on and never hash by it.
-/
namespace Go.Proofs.YthndmkhdcgdloaaGreatDoor
open Go.RowKit Go.Maps
theorem nch {a b c : World} (h1 : Below a.heap.size a b) (h2 : Below b.heap.size b c) : Below a.heap.size a c := h1.trans (h2.mono h1.size)
theorem nal (w : World) (o : Obj) : Below w.heap.size w (w.alloc o) := (Below.refl _ _).alloc (Nat.le_refl _) _
theorem wpList_build_to {P : Program} {ops : Array Oper} {rest : List Oper} {o : Oper} {a : Act} {w : World} {Q : Exit → Act → World → Prop} (hg : o.guard = none) (t : TypeId) (parts : Array (Nat × Operand)) (ho : o.op = .build t parts) (cells : Array Value)
    (hb : P.built t (parts.map fun (i, x) => (i, a.eval x)).toList = some cells)
    (h : wpList P ops Q rest (a.put o.dst (.agg cells)) w) : wpList P ops Q (o :: rest) a w :=
  wpList_build hg t parts ho (by rw [hb]; rfl) (by rw [hb]; exact h)
theorem maybe_yes (w : World) (n : Int) (h1 : 8 ≤ n) (h2 : n ≤ 256) : Calls Tryz.prog 59 #[.int .i64 n] w fun e w' => e = .returned (.bool true) ∧ w' = w := by
  go_enter Tryz.func59, Tryz.ntmps59
  go_wp2
  go_ret
  exact ⟨rfl, rfl⟩
theorem infoN : (Tryz.prog.info? 130).map (fun i => (i.zero, i.size)) = some (some (.agg #[.map none, .int .i64 0]), 2) := by kernel_rfl
theorem infoN2 : (Tryz.prog.info? 130).map (·.size) = some 2 := by kernel_rfl
set_option maxRecDepth 100000 in
theorem blank_any (w : World) : Calls Tryz.prog 60 #[] w fun e w' => ∃ m, e = .returned (.agg #[.map (some m), .int .i64 0]) ∧ Below w.heap.size w w' := by
  have z64 := (zero_of_info infoN).1
  have hmm := @run_makeMap Tryz.prog
  have hi : (Tryz.prog.info? 130).map (·.size) = some (#[.map (some (w.heap.size + 1)), .int .i64 0] : Array Value).size := infoN2
  have hr : ((w.alloc (.cells #[.map (some (w.heap.size + 1)), .int .i64 0] 130)).alloc (.map #[] 0)).heap[w.heap.size]? = some (.cells #[.map (some (w.heap.size + 1)), .int .i64 0] 130 (0, 0)) := (heap_alloc_old _ _ (by simp)).trans (heap_alloc_new _ _)
  go_enter Tryz.func60, Tryz.ntmps60
  go_wp2_with fail
  refine bodyPost_ret (v := .agg #[.map (some (w.heap.size + 1)), .int .i64 0]) ?_ rfl ?_
  · exact results_cell_row rfl _ _ w.heap.size 130 #[.map (some (w.heap.size + 1)), .int .i64 0] (0, 0) _ rfl hr Tryz.underlying130 rfl hi
  · exact ⟨_, rfl, ((Below.refl _ _).alloc (Nat.le_refl _) _).alloc (by simp) _⟩
/-- a new book's cells, ahead of the secret -/
def bk0 (bits cbits bh bc bf : Nat) : Array Value := #[.int .i64 bits, .int .i64 cbits] ++ Array.replicate 32 (.int .u8 0) ++ #[.int .i32 0, .int .u32 0, .map (some bh), .int .i64 0, .map (some bc), .int .i64 0, .map (some bf), .int .i64 0]
theorem bk0_size (bits cbits bh bc bf : Nat) : (bk0 bits cbits bh bc bf).size = 42 := by simp [bk0]
set_option maxRecDepth 100000 in
theorem builtB (bits cbits bh bc bf : Nat) : Tryz.prog.built 132 [(0, .int .i64 bits), (1, .int .i64 cbits), (4, .agg #[.map (some bh), .int .i64 0]), (5, .agg #[.map (some bc), .int .i64 0]), (6, .agg #[.map (some bf), .int .i64 0])] = some (bk0 bits cbits bh bc bf) := by kernel_rfl
def z32v : List Value := List.replicate 32 (.int .u8 0)
theorem z32v_len : z32v.length = 32 := List.length_replicate ..
set_option maxRecDepth 100000 in
set_option maxHeartbeats 1600000 in
/-- a book of so many bits, with a secret of zeros -/
theorem newbook (w : World) (n m b c : Nat) (h1 : 8 ≤ n ∧ n ≤ 256) (h2 : 8 ≤ m ∧ m ≤ 256) (hs : ∀ j v, z32v[j]? = some v → w.cell? ((⟨b, 0, none⟩ : Addr).add j) = some v) (hb : b < w.heap.size) :
    Calls Tryz.prog 33 #[.int .i64 n, .int .i64 m, .slice (some ⟨b, 0, none⟩) 32 c] w fun e w' => ∃ sb, e = .returned (.tuple #[.pointer (some ⟨sb, 0, none⟩), .int .i64 0]) ∧ Below w.heap.size w w' := by
  have c1 := maybe_yes w n (by omega) (by omega)
  have c2 := maybe_yes w m (by omega) (by omega)
  have HV : Hid ((∀ j v, z32v[j]? = some v → w.cell? ((⟨b, 0, none⟩ : Addr).add j) = some v) ∧ b < w.heap.size) := ⟨hs, hb⟩
  clear hs hb h1 h2
  go_enter Tryz.func33, Tryz.ntmps33
  go_wp2_with fail
  refine c1.mono ?_
  rintro _ w' ⟨rfl, hw'⟩
  have hw'' := hw'.symm
  subst hw''
  go_wp2_with fail
  refine c2.mono ?_
  rintro _ w' ⟨rfl, hw'⟩
  have hw'' := hw'.symm
  subst hw''
  go_wp2_with fail
  refine (blank_any w).mono ?_
  rintro _ w3 ⟨bh, rfl, hb3⟩
  have H3 : Hid (Below w.heap.size w w3) := hb3
  clear hb3
  go_wp2_with fail
  refine (blank_any w3).mono ?_
  rintro _ w4 ⟨bc, rfl, hb4⟩
  have H4 : Hid (Below w3.heap.size w3 w4) := hb4
  clear hb4
  go_wp2_with fail
  refine (blank_any w4).mono ?_
  rintro _ w5 ⟨bf, rfl, hb5⟩
  have b5 : Below w.heap.size w w5 := nch H3.out (nch H4.out hb5)
  clear hb5 H3 H4
  have hg : (w5.alloc (.cells (bk0 n m bh bc bf) 132)).heap[w5.heap.size]? = some (.cells (bk0 n m bh bc bf) 132 (0, 0)) := heap_alloc_new _ _
  have b6 : Below w.heap.size w (w5.alloc (.cells (bk0 n m bh bc bf) 132)) := nch b5 (nal _ _)
  have hsrc : ∀ j v, z32v[j]? = some v → (w5.alloc (.cells (bk0 n m bh bc bf) 132)).cell? ((⟨b, 0, none⟩ : Addr).add j) = some v := fun j v hj => (b6.cell (by rw [Go.WideShapes.add_plain]; exact HV.out.2)).trans (HV.out.1 j v hj)
  have h1s : ∀ v ∈ z32v, v.oneCell' = true := fun v hv => by
    obtain rfl := List.eq_of_mem_replicate hv
    rfl
  have hcl : z32v.length = Nat.min 32 32 := z32v_len
  have hft : 2 + z32v.length ≤ (bk0 n m bh bc bf).size := by rw [z32v_len, bk0_size]; decide
  have hsz : (Tryz.prog.info? 5).map (·.size) = some 1 := by kernel_rfl
  have HW : Hid (Below w.heap.size w (w5.alloc (.cells (bk0 n m bh bc bf) 132)) ∧ Below w.heap.size w w5) := ⟨b6, b5⟩
  clear b5 b6
  obtain ⟨cs, hcs⟩ : ∃ cs, cs = ((bk0 n m bh bc bf).toList.take 2 ++ (z32v ++ (bk0 n m bh bc bf).toList.drop (2 + z32v.length))).toArray := ⟨_, rfl⟩
  have HCS : Hid (cs = ((bk0 n m bh bc bf).toList.take 2 ++ (z32v ++ (bk0 n m bh bc bf).toList.drop (2 + z32v.length))).toArray) := hcs
  clear hcs
  go_wp2_with (first
    | refine wpList_build_to (by rfl) 132 #[(0, .tmp 17), (1, .tmp 18), (4, .tmp 19), (5, .tmp 20), (6, .tmp 21)] (by rfl) (bk0 n m bh bc bf) (by simp only [List.map_toArray, List.map_cons, List.map_nil]; exact builtB _ _ _ _ _) ?_
    | (refine wpList_copy_own (by rfl) (.tmp 30) (.tmp 31) 36 36 (by rfl) 5 Tryz.underlying36 hsz w5.heap.size 2 32 32 ⟨b, 0, none⟩ 32 c (by rfl) (by rfl) (bk0 n m bh bc bf) 132 hg z32v hcl hsrc hft h1s ?_; rw [← HCS.out]))
  go_ret2
  exact ⟨_, rfl, below_setRow HW.out.1 (HW.out.2.size) _⟩
end Go.Proofs.YthndmkhdcgdloaaGreatDoor
