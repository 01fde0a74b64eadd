import Derived.Test.YtpmdjopojcgpeaaGreatDoorQSmq
import Derived.Deep.RegionHeld3
import Derived.Deep.AppendLies
import Derived.Laws.AppendOwnNone
import Derived.Deep.DeepHandedRow
import Derived.ProofKit
import Derived.Test.YtpmdjopojcgpeaaGreatDoorQLibAq
import Derived.Lib.SliceRun
/-
  The first of a row as values; a list of bytes as a text.
-/
namespace Go.Proofs.YtpmdjopojcgpeaaGreatDoor.Dg
open Go.RowKit

/-- the first j of a row as values -/
def vals (Y : Nat → Int) (j : Nat) : List Value := (List.range j).map (fun i => Value.int .u8 (Y i))
theorem vals_length (Y : Nat → Int) (j : Nat) : (vals Y j).length = j := by simp [vals]
theorem vals_succ (Y : Nat → Int) (j : Nat) : vals Y j ++ [.int .u8 (Y j)] = vals Y (j + 1) := by
  unfold vals
  rw [List.range_succ]
  simp
theorem vals_two (Y : Nat → Int) (j : Nat) : vals Y j ++ [.int .u8 (Y j), .int .u8 (Y (j + 1))] = vals Y (j + 2) := by
  rw [show j + 2 = (j + 1) + 1 by omega, ← vals_succ Y (j + 1), ← vals_succ Y j]
  simp
/-- what a value that owns a row of bytes is good for -/
theorem view_own {w' : World} {B : Nat} {v : Value} {n : Nat} {Y : Nat → Int} (h : w'.ownsRow B 5 1 v n (vals Y n)) (hb : ∀ i, i < n → 0 ≤ Y i ∧ Y i ≤ 255) (hn : n ≤ 281474976710656) :
    ∃ a g c, v = .slice a n c ∧ View w' a g 0 n Y ∧ n ≤ c ∧ (a ≠ none → B ≤ g ∧ a = some ⟨g, 0, none⟩) := by
  rcases h.2 with ⟨rfl, h0⟩ | ⟨g, cap, cur, rfl, hlt, hcs⟩
  · subst h0
    exact ⟨none, 0, 0, rfl, ⟨fun h => absurd h (by omega), fun i h => absurd h (by omega), fun i h => absurd h (by omega), by omega⟩, by omega, fun h => absurd rfl h⟩
  · refine ⟨some ⟨g, 0, none⟩, g, cap, rfl, ⟨fun _ => rfl, fun i hi => ?_, hb, hn⟩, hcs.2.1, fun _ => ⟨hlt, rfl⟩⟩
    rw [Nat.zero_add, h.cellAt i (by omega)]
    simp [vals, hi]

/-- the text of bytes -/
def str (n : Nat) (Z : Nat → Int) : ByteArray := strOfNums ((List.range n).map Z)
theorem convert_view {w : World} {a : Option Addr} {b off n : Nat} {Z : Nat → Int} (h : View w a b off n Z) (c : Nat) :
    (convert 29 9 (.slice a n c)).run Tryz.prog w = .ok (.string (str n Z)) w := by
  by_cases hn : n = 0
  · subst hn
    rw [run_convert_bytes_string w 29 9 5 _ 0 c Tryz.underlying29 Tryz.underlying5 Tryz.underlying9]
    cases a with
    | none => simp [Conv.bytesToString, str, strOfNums]; rfl
    | some p =>
      rw [run_bytesToString w p 0 c [] (by simpa using run_loadCells_list (P := Tryz.prog) w p [] (fun j v hj => by simp at hj))]
      simp [str, strOfNums]; rfl
  · obtain rfl := h.at_ (by omega)
    exact run_convert_bytes_arg (P := Tryz.prog) w 29 5 Tryz.underlying29 Tryz.underlying5 b off n c ((List.range n).map Z) (by simp) (fun i hi => by rw [h.cell i hi]; simp [hi]) 9 Tryz.underlying9
end Go.Proofs.YtpmdjopojcgpeaaGreatDoor.Dg

/-
  Bytes appended to a list that the call owns.
-/
namespace Go.Proofs.YtpmdjopojcgpeaaGreatDoor.Dg
open Go.RowKit

theorem vals_cell {Y : Nat → Int} {n j : Nat} {u : Value} (hu : (vals Y n)[j]? = some u) : j < n ∧ u = .int .u8 (Y j) := by
  have hj : j < n := by
    rcases Nat.lt_or_ge j n with x | x
    · exact x
    · rw [List.getElem?_eq_none (by simpa [vals] using x)] at hu; cases hu
  refine ⟨hj, ?_⟩
  unfold vals at hu
  rw [List.getElem?_map, List.getElem?_range hj] at hu
  exact (Option.some.inj hu).symm
theorem vals_one {Y : Nat → Int} {n : Nat} : ∀ u ∈ vals Y n, u.oneCell' = true := by
  intro u hu
  obtain ⟨i, _, rfl⟩ := List.mem_map.1 hu
  rfl
theorem vals_app (Y : Nat → Int) (k n : Nat) (Z : Nat → Int) (h : ∀ i, i < n → Y (k + i) = Z i) : vals Y k ++ vals Z n = vals Y (k + n) := by
  induction n with
  | zero => simp [vals]
  | succ n ih =>
    rw [← vals_succ Z n, ← List.append_assoc, ih (fun i hi => h i (by omega)), ← h n (by omega), vals_succ, Nat.add_assoc]
theorem vals_congr {Y Z : Nat → Int} {n : Nat} (h : ∀ i, i < n → Y i = Z i) : vals Y n = vals Z n := by
  unfold vals
  refine List.map_congr_left (fun i hi => ?_)
  rw [h i (by simpa using hi)]
theorem grown_below {B : Nat} {w w' : World} {v : Value} {e size n : Nat} {xs : List Value} {B0 : Nat} (hg : w.grownBy w' v.ownBlock) (ho : w.ownsRow B0 e size v n xs) (h0 : B ≤ B0) (hB : B ≤ w.heap.size) : Below B w w' :=
  ⟨hg.os, hg.tape, hg.output, hg.size, fun k hk => hg.block k (by omega) (fun e => by have := (ho.lt k e.symm).1; omega)⟩

theorem wpList_append_bytes {w : World} {ops : Array Oper} {rest : List Oper} {o : Oper} {a : Act} {Q : Exit → Act → World → Prop} (hgd : o.guard = none) (s x : Operand)
    (ho : o.op = .call { callee := .builtin .append, args := #[s, x], argTypes := #[29, 29] }) (base : Nat) (v : Value) (k : Nat) (xs : List Value) (hs : a.eval s = v) (hown : w.ownsRow base 5 1 v k xs)
    (sa : Option Addr) (b off n c : Nat) (Y : Nat → Int) (hx : a.eval x = .slice sa n c) (hv : View w sa b off n Y) (hnil : sa = none → c = 0) (hk : k + n ≤ 140737488355328) (hbase : base ≤ w.heap.size)
    (h : ∀ v' w', w'.ownsRow base 5 1 v' (k + n) (xs ++ vals Y n) → w.grownBy w' v.ownBlock → (v' = .slice none 0 0 → v = .slice none 0 0) → wpList Tryz.prog ops Q rest (a.put o.dst v') w') : wpList Tryz.prog ops Q (o :: rest) a w := by
  obtain ⟨i0, hi0, hz0, hz1, hz2⟩ := info_parts Tryz.info5
  cases sa with
  | none =>
    have hn : n = 0 := by
      rcases Nat.eq_zero_or_pos n with e | e
      · exact e
      · cases hv.at_ e
    subst hn
    obtain rfl := hnil rfl
    refine wpList_append_own_none hgd s x 29 ho base 5 i0 1 Tryz.underlying29 hi0 v k xs hs hown hx ?_
    refine h v w ?_ ⟨rfl, rfl, rfl, Nat.le_refl _, fun _ _ _ => rfl⟩ id
    simpa [vals] using hown
  | some p =>
    refine wpList_append_own _ hgd s x 29 ho base 5 i0 (.int .u8 0) 1 1 Tryz.underlying29 hi0 hz0 hz1 hz2 rfl (by decide) v k xs hs hown p n c (vals Y n) hx (by simp [vals]) ?_ vals_one (by unfold maxLen; omega) (by omega) hbase (fun v' w' h1 h2 h3 => h v' w' h1 h2 (fun e => (h3.1 e).1))
    intro j u hu
    obtain ⟨hj, rfl⟩ := vals_cell hu
    have hp : p = ⟨b, off, none⟩ := Option.some.inj (hv.at_ (by omega))
    subst hp
    rw [Go.WideShapes.add_plain]
    exact hv.cell j hj
/-- one byte -/
theorem view_new1 (w : World) (x : Int) (h0 : 0 ≤ x) (h1 : x ≤ 255) : View (w.alloc (.cells #[.int .u8 x] 5)) (some ⟨w.heap.size, 0, none⟩) w.heap.size 0 1 (fun _ => x) := by
  refine ⟨fun _ => rfl, fun i hi => ?_, fun _ _ => ⟨h0, h1⟩, by omega⟩
  have : i = 0 := by omega
  subst this
  rw [cell_of_row _ _ _ _ 5 _ (heap_alloc_new w _)]
  rfl
theorem vals1 (x : Int) : vals (fun _ => x) 1 = [.int .u8 x] := rfl
end Go.Proofs.YtpmdjopojcgpeaaGreatDoor.Dg

/-
  bytes.Clone.
-/
namespace Go.Proofs.YtpmdjopojcgpeaaGreatDoor.Dg
open Go.RowKit

theorem vals_bv (s : List Nat) : vals (fun i => ((gd s i : Nat) : Int)) s.length = bv s := by
  apply List.ext_getElem?
  intro i
  by_cases hi : i < s.length
  · rw [bv_at hi]
    unfold vals
    rw [List.getElem?_map, List.getElem?_range hi]
    rfl
  · rw [List.getElem?_eq_none (by rw [vals_length]; omega), List.getElem?_eq_none (by rw [bv_len]; omega)]

set_option maxRecDepth 100000 in
theorem clone_any (w : World) (a : Option Addr) (b off c : Nat) (s : List Nat) (h : Vw w a b off s) (hs : s.length ≤ 140737488355328) :
    Calls Tryz.prog 63 #[.slice a s.length c] w fun e w' => ∃ v, e = .returned v ∧ w'.ownsRow w.heap.size 5 1 v s.length (bv s) ∧ Below w.heap.size w w' := by
  have q22 : ∀ (w : World) (a : Option Addr) (n c n' c' : Nat), (binOp .eql 29 (.slice a n c) (.slice none n' c')).run Tryz.prog w = .ok (.bool a.isNone) w := fun w a n c n' c' => Lib.run_eql_slice_nil w _ _ a n c n' c' Tryz.underlying29
  cases a with
  | none =>
    have h0 : s.length = 0 := by
      rcases Nat.eq_zero_or_pos s.length with e | e
      · exact e
      · cases h.at_ e
    obtain rfl : s = [] := List.length_eq_zero_iff.1 h0
    clear h
    go_enter Tryz.func63, Tryz.ntmps63
    go_wp2
    go_ret
    exact ⟨_, rfl, World.ownsRow_nil _ _ _ _, Below.refl _ _⟩
  | some p =>
    obtain ⟨n, hn⟩ : ∃ n, n = s.length := ⟨_, rfl⟩
    have h' : View w (some p) b off n (fun i => ((gd s i : Nat) : Int)) := by rw [hn]; exact h
    have HV : Hid (View (w.alloc (.cells #[] 5)) (some p) b off n (fun i => ((gd s i : Nat) : Int))) := h'.below ((Below.refl _ _).alloc (Nat.le_refl _) _)
    have HB : Hid (vals (fun i => ((gd s i : Nat) : Int)) n = bv s) := by rw [hn]; exact vals_bv s
    rw [← hn] at hs ⊢
    clear h h' hn
    go_enter Tryz.func63, Tryz.ntmps63
    go_wp2_with (at_builtin; refine wpList_append_bytes (by rfl) _ _ (by rfl) w.heap.size _ 0 [] (by rfl) (World.ownsRow_made w #[] 0 (Nat.le_refl _) (by decide) rfl) (some p) b off n c (fun i => ((gd s i : Nat) : Int)) (by rfl) HV.out (fun k => by cases k) (by omega) (by simp) ?_; intro v' w1 ho hg hnn)
    go_ret
    rw [List.nil_append, HB.out, Nat.zero_add] at ho
    exact ⟨v', rfl, ho, Below.trans ((Below.refl _ _).alloc (Nat.le_refl _) _) ⟨hg.os, hg.tape, hg.output, hg.size, fun k hk => hg.block k (by simp; omega) (fun e => by simp [Value.ownBlock] at e; omega)⟩⟩
end Go.Proofs.YtpmdjopojcgpeaaGreatDoor.Dg
