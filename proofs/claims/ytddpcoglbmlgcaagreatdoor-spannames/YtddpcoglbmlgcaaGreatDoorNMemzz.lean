import Derived.Test.YtddpcoglbmlgcaaGreatDoorChecked
import Derived.Test.YtddpcoglbmlgcaaGreatDoorNItmzz
import Derived.WalkKit
import Derived.Deep.OwnRows
import Derived.Deep.LoopGhost
import Derived.Deep.QuietTactic
import Derived.BigQuiet
import Derived.Deep.Light
import Derived.Laws.BytesArg
import Derived.WalkSmall
import Derived.Deep.RegionHeld3
import Derived.Deep.AppendLies
import Derived.Laws.AppendOwnNone
import Derived.Deep.DeepHandedRow
import Derived.ProofKit
import Derived.Laws.CopyOwn
import Derived.OwnWalk
import Derived.ArgAppend
import Derived.Deep.MidRow
import Derived.Lib.QuietBelow
/-
  How a list of bytes lies in memory, told by the index; what of the heap a call turns; strings.
-/
namespace Go.Proofs.YtddpcoglbmlgcaaGreatDoor
open Go.RowKit
theorem ch {a b c : World} (h1 : Below a.heap.size a b) (h2 : Below b.heap.size b c) : Below a.heap.size a c := h1.trans (h2.mono h1.size)
theorem Tryz.info5 : (Tryz.prog.info? 5).map (fun i => (i.zero, i.size, i.bytes)) = some (some (.int .u8 0), 1, 1) := by kernel_rfl
/-- THE SLICE VALUE v HOLDS n BYTES, Z i AT PLACE i. -/
structure View (w : World) (a : Option Addr) (b off n : Nat) (Z : Nat → Int) : Prop where
  at_ : 0 < n → a = some ⟨b, off, none⟩
  cell : ∀ i, i < n → w.cell? ⟨b, off + i, none⟩ = some (.int .u8 (Z i))
  bd : ∀ i, i < n → 0 ≤ Z i ∧ Z i ≤ 255
  len : n ≤ 281474976710656
theorem View.lt {w : World} {a : Option Addr} {b off n : Nat} {Z : Nat → Int} (h : View w a b off n Z) (hn : 0 < n) : b < w.heap.size :=
  World.block_lt_of_cell? _ _ (h.cell 0 hn)
theorem View.of_cells {w w' : World} {a : Option Addr} {b off n : Nat} {Z : Nat → Int} (h : View w a b off n Z) (hc : ∀ p : Addr, p.block < w.heap.size → w'.cell? p = w.cell? p) : View w' a b off n Z :=
  ⟨h.at_, fun i hi => (hc _ (h.lt (by omega))).trans (h.cell i hi), h.bd, h.len⟩
theorem View.drewN {w : World} {a : Option Addr} {b off n : Nat} {Z : Nat → Int} (h : View w a b off n Z) (q : Nat) : View (w.drewN q) a b off n Z :=
  h.of_cells fun p _ => by simp
theorem View.below {w w' : World} {a : Option Addr} {b off n : Nat} {Z : Nat → Int} (h : View w a b off n Z) (hb : Below w.heap.size w w') : View w' a b off n Z :=
  h.of_cells fun _ hp => hb.cell hp
theorem View.congr {w : World} {a : Option Addr} {b off n : Nat} {Z Y : Nat → Int} (h : View w a b off n Z) (e : ∀ i, i < n → Z i = Y i) : View w a b off n Y :=
  ⟨h.at_, fun i hi => by rw [← e i hi]; exact h.cell i hi, fun i hi => by rw [← e i hi]; exact h.bd i hi, h.len⟩
/-- EVERY OLD BLOCK BUT THOSE OF F IS AS IT WAS. -/
structure Turn (F : Nat → Prop) (w w' : World) : Prop where
  os : w'.os = w.os
  tape : w'.tape = w.tape
  output : w'.output = w.output
  size : w.heap.size ≤ w'.heap.size
  block : ∀ k, k < w.heap.size → ¬ F k → w'.heap[k]? = w.heap[k]?
theorem Turn.refl (F : Nat → Prop) (w : World) : Turn F w w := ⟨rfl, rfl, rfl, Nat.le_refl _, fun _ _ _ => rfl⟩
theorem Turn.trans {F G : Nat → Prop} {a b c : World} (h : Turn F a b) (k : Turn G b c) (hG : ∀ i, G i → F i ∨ a.heap.size ≤ i) : Turn F a c :=
  ⟨k.os.trans h.os, k.tape.trans h.tape, k.output.trans h.output, Nat.le_trans h.size k.size, fun i hi hF =>
    (k.block i (Nat.lt_of_lt_of_le hi h.size) (fun g => by rcases hG i g with q | q; exact hF q; omega)).trans (h.block i hi hF)⟩
theorem Turn.mono {F G : Nat → Prop} {a b : World} (h : Turn F a b) (hFG : ∀ i, F i → G i ∨ a.heap.size ≤ i) : Turn G a b :=
  ⟨h.os, h.tape, h.output, h.size, fun i hi hG => h.block i hi (fun f => by rcases hFG i f with q | q; exact hG q; omega)⟩
theorem Turn.of_below {F : Nat → Prop} {w w' : World} (h : Below w.heap.size w w') : Turn F w w' := ⟨h.os, h.tape, h.output, h.size, fun k hk _ => h.block k hk⟩
theorem Turn.of_grown {F : Nat → Prop} {w w' : World} {row : Option Nat} (h : w.grownBy w' row) (hr : ∀ k, row = some k → F k) : Turn F w w' :=
  ⟨h.os, h.tape, h.output, h.size, fun k hk hF => h.block k hk (fun e => hF (hr k e.symm))⟩
theorem Turn.setCell {F : Nat → Prop} (w : World) (a : Addr) (v : Value) (hb : F a.block) : Turn F w (w.setCell a v) :=
  ⟨rfl, rfl, rfl, by simp [World.setCell], fun k _ hk => Below.heap_setCell _ _ _ _ (fun e => hk (e ▸ hb))⟩
theorem Turn.setRow {F : Nat → Prop} (w : World) (g : Nat) (cs : Array Value) (hb : F g) : Turn F w (w.setRow g cs) :=
  ⟨rfl, rfl, rfl, by simp, fun k _ hk => setRow_other w g k cs (fun e => hk (e ▸ hb))⟩
theorem Turn.alloc {F : Nat → Prop} (w : World) (o : Obj) : Turn F w (w.alloc o) := Turn.of_below ((Below.refl _ _).alloc (Nat.le_refl _) _)
theorem Turn.drewN {F : Nat → Prop} (w : World) (q : Nat) : Turn F w (w.drewN q) := ⟨rfl, rfl, rfl, Nat.le_refl _, fun _ _ _ => rfl⟩
theorem Turn.drew {F : Nat → Prop} (w : World) : Turn F w w.drew := ⟨rfl, rfl, rfl, Nat.le_refl _, fun _ _ _ => rfl⟩
theorem Turn.below {F : Nat → Prop} {w w' : World} (h : Turn F w w') {B : Nat} (hF : ∀ i, F i → B ≤ i) (hB : B ≤ w.heap.size) : Below B w w' :=
  ⟨h.os, h.tape, h.output, h.size, fun k hk => h.block k (by omega) (fun f => by have := hF k f; omega)⟩
theorem Turn.cell {F : Nat → Prop} {w w' : World} (h : Turn F w w') {q : Addr} (hq : q.block < w.heap.size) (hp : ¬ F q.block) : w'.cell? q = w.cell? q := World.cell?_of_block (w := w) (h.block q.block hq hp)
theorem Turn.grown {F : Nat → Prop} {w w' : World} (h : Turn F w w') (hF : ∀ k, F k → w.heap.size ≤ k) : w.grownBy w' none := ⟨h.os, h.tape, h.output, h.size, fun k hk _ => h.block k hk (fun f => by have := hF k f; omega)⟩
theorem View.turn {F : Nat → Prop} {w w' : World} {a : Option Addr} {b off n : Nat} {Z : Nat → Int} (h : View w a b off n Z) (hs : Turn F w w') (hb : 0 < n → ¬ F b) : View w' a b off n Z :=
  ⟨h.at_, fun i hi => (hs.cell (q := ⟨b, off + i, none⟩) (h.lt (by omega)) (hb (by omega))).trans (h.cell i hi), h.bd, h.len⟩
theorem own_turn {F : Nat → Prop} {w w' : World} {base e size n : Nat} {v : Value} {xs : List Value} (h : w.ownsRow base e size v n xs) (hs : Turn F w w') (hv : ∀ g, v.ownBlock = some g → ¬ F g) : w'.ownsRow base e size v n xs := by
  have hlt := h.lt
  obtain ⟨h1, h2⟩ := h
  refine ⟨h1, ?_⟩
  rcases h2 with hn | ⟨g, cap, cur, rfl, hb, hg, rest⟩
  · exact Or.inl hn
  · exact Or.inr ⟨g, cap, cur, rfl, hb, (hs.block g (hlt g rfl).2 (hv g rfl)).trans hg, rest⟩
/-! ### strings -/
def Bs (s : List Nat) : Prop := s.length ≤ 281474976710656 ∧ ∀ x ∈ s, x < 256
def bv (s : List Nat) : List Value := s.map (fun x : Nat => Value.int .u8 (x : Int))
theorem bv_len (s : List Nat) : (bv s).length = s.length := by simp [bv]
theorem gd_lt {s : List Nat} (h : ∀ x ∈ s, x < 256) (i : Nat) : gd s i < 256 := by
  unfold gd
  rw [List.getD_eq_getElem?_getD]
  cases hi : s[i]? with
  | none => decide
  | some x => exact h x (List.mem_of_getElem? hi)
theorem bv_at {s : List Nat} {i : Nat} (h : i < s.length) : (bv s)[i]? = some (.int .u8 (gd s i : Nat)) := by
  unfold bv
  rw [List.getElem?_map, List.getElem?_eq_getElem h, gd_get h]
  rfl
/-- THE SLICE VALUE OF s.length BYTES HOLDS s. -/
abbrev Vw (w : World) (a : Option Addr) (b off : Nat) (s : List Nat) : Prop := View w a b off s.length (fun i => ((gd s i : Nat) : Int))
theorem vw_ok {w : World} {a : Option Addr} {b off : Nat} {s : List Nat} (h : Vw w a b off s) : Bs s :=
  ⟨h.len, fun x hx => by
    obtain ⟨i, hi, rfl⟩ := List.getElem_of_mem hx
    have := h.bd i hi
    rw [gd_get hi]
    omega⟩
/-- the list of n bytes -/
def lst (n : Nat) (Y : Nat → Nat) : List Nat := (List.range n).map Y
theorem lst_len (n : Nat) (Y : Nat → Nat) : (lst n Y).length = n := by simp [lst]
theorem lst_gd {n : Nat} {Y : Nat → Nat} {i : Nat} (h : i < n) : gd (lst n Y) i = Y i := by
  unfold gd lst
  rw [List.getD_eq_getElem?_getD, List.getElem?_map, List.getElem?_range h]
  rfl
theorem vw_of {w : World} {a : Option Addr} {b off n : Nat} {Y : Nat → Nat} (h : View w a b off n (fun i => (Y i : Int))) : Vw w a b off (lst n Y) := by
  unfold Vw
  rw [lst_len]
  exact h.congr (fun i hi => by rw [lst_gd hi])
theorem lst_of (s : List Nat) : lst s.length (gd s) = s := ext_gd (by rw [lst_len]) (fun i hi => by rw [lst_len] at hi; exact lst_gd hi)
/-- A STRING THAT LIES IN A BLOCK OF ITS OWN, one of F's. -/
structure Str (w : World) (F : Nat → Prop) (u : Value) (s : List Nat) : Prop where
  own : w.ownsRow 0 5 1 u s.length (bv s)
  foot : ∀ g, u.ownBlock = some g → F g
  ok : Bs s
theorem Str.view {w : World} {F : Nat → Prop} {u : Value} {s : List Nat} (h : Str w F u s) : ∃ a g c, u = .slice a s.length c ∧ s.length ≤ c ∧ Vw w a g 0 s ∧ (0 < s.length → F g ∧ g < w.heap.size) := by
  have hf := h.foot
  have hl := h.own.lt
  obtain ⟨hn, ho⟩ := h.own
  rcases ho with ⟨rfl, h0⟩ | ⟨g, cap, cur, rfl, hb, hg, h1, h2, h3, h4⟩
  · refine ⟨none, 0, 0, by rw [h0], by omega, ⟨fun k => by omega, fun i hi => by omega, fun i hi => by omega, by omega⟩, fun k => by omega⟩
  · refine ⟨_, g, cap, rfl, h1, ⟨fun _ => rfl, fun i hi => ?_, fun i hi => ?_, h.ok.1⟩, fun _ => ⟨hf g rfl, (hl g rfl).2⟩⟩
    · have := h.own.cells (g := g) rfl i _ (bv_at hi)
      rw [show (⟨g, 0, none⟩ : Addr).add i = ⟨g, 0 + i, none⟩ by unfold Addr.add; split <;> simp_all] at this
      exact this
    · have := gd_lt h.ok.2 i
      omega
theorem Str.turn {F G : Nat → Prop} {w w' : World} {u : Value} {s : List Nat} (h : Str w F u s) (hs : Turn G w w') (hd : ∀ i, F i → i < w.heap.size → ¬ G i) : Str w' F u s :=
  ⟨own_turn h.own hs (fun g hg => hd g (h.foot g hg) (h.own.lt g hg).2), h.foot, h.ok⟩
theorem Str.mono {F G : Nat → Prop} {w : World} {u : Value} {s : List Nat} (h : Str w F u s) (hd : ∀ i, F i → G i) : Str w G u s := ⟨h.own, fun g hg => hd g (h.foot g hg), h.ok⟩
theorem Str.one {F : Nat → Prop} {w : World} {u : Value} {s : List Nat} (h : Str w F u s) : u.oneCell' = true := by
  rcases h.own.2 with ⟨rfl, _⟩ | ⟨g, cap, cur, rfl, _⟩ <;> rfl
/-- a block of strings' bytes is no block of another type -/
theorem Str.ne {F : Nat → Prop} {w : World} {u : Value} {s : List Nat} (h : Str w F u s) {g : Nat} {cs : Array Value} {t : TypeId} {fz : Nat × Nat} (hg : w.heap[g]? = some (.cells cs t fz)) (ht : t ≠ 5) : u.ownBlock ≠ some g := by
  intro e
  rcases h.own.2 with ⟨rfl, _⟩ | ⟨g', cap, cur, rfl, _, hg', _⟩
  · simp [Value.ownBlock] at e
  · simp only [Value.ownBlock, Option.some.injEq] at e
    subst e
    rw [hg] at hg'
    injection hg' with hg'
    injection hg' with _ h2
    exact ht h2
/-! ### values -/
/-- the first j of a row as values -/
def vals (Y : Nat → Int) (j : Nat) : List Value := (List.range j).map (fun i => Value.int .u8 (Y i))
theorem vals_length (Y : Nat → Int) (j : Nat) : (vals Y j).length = j := by simp [vals]
theorem vals_succ (Y : Nat → Int) (j : Nat) : vals Y j ++ [.int .u8 (Y j)] = vals Y (j + 1) := by
  unfold vals
  rw [List.range_succ]
  simp
theorem vals_two (Y : Nat → Int) (j : Nat) : vals Y j ++ [.int .u8 (Y j), .int .u8 (Y (j + 1))] = vals Y (j + 2) := by
  rw [show j + 2 = (j + 1) + 1 by omega, ← vals_succ Y (j + 1), ← vals_succ Y j]
  simp
/-- what a value that owns a row of bytes is good for -/
theorem view_own {w' : World} {B : Nat} {v : Value} {n : Nat} {Y : Nat → Int} (h : w'.ownsRow B 5 1 v n (vals Y n)) (hb : ∀ i, i < n → 0 ≤ Y i ∧ Y i ≤ 255) (hn : n ≤ 281474976710656) :
    ∃ a g c, v = .slice a n c ∧ View w' a g 0 n Y ∧ n ≤ c ∧ (a ≠ none → B ≤ g ∧ a = some ⟨g, 0, none⟩) := by
  rcases h.2 with ⟨rfl, h0⟩ | ⟨g, cap, cur, rfl, hlt, hcs⟩
  · subst h0
    exact ⟨none, 0, 0, rfl, ⟨fun h => absurd h (by omega), fun i h => absurd h (by omega), fun i h => absurd h (by omega), by omega⟩, by omega, fun h => absurd rfl h⟩
  · refine ⟨some ⟨g, 0, none⟩, g, cap, rfl, ⟨fun _ => rfl, fun i hi => ?_, hb, hn⟩, hcs.2.1, fun _ => ⟨hlt, rfl⟩⟩
    rw [Nat.zero_add, h.cellAt i (by omega)]
    simp [vals, hi]
/-- the text of bytes -/
def str (n : Nat) (Z : Nat → Int) : ByteArray := strOfNums ((List.range n).map Z)
theorem convert_view {w : World} {a : Option Addr} {b off n : Nat} {Z : Nat → Int} (h : View w a b off n Z) (c : Nat) :
    (convert 33 9 (.slice a n c)).run Tryz.prog w = .ok (.string (str n Z)) w := by
  by_cases hn : n = 0
  · subst hn
    rw [run_convert_bytes_string w 33 9 5 _ 0 c Tryz.underlying33 Tryz.underlying5 Tryz.underlying9]
    cases a with
    | none => simp [Conv.bytesToString, str, strOfNums]; rfl
    | some p =>
      rw [run_bytesToString w p 0 c [] (by simpa using run_loadCells_list (P := Tryz.prog) w p [] (fun j v hj => by simp at hj))]
      simp [str, strOfNums]; rfl
  · obtain rfl := h.at_ (by omega)
    exact run_convert_bytes_arg (P := Tryz.prog) w 33 5 Tryz.underlying33 Tryz.underlying5 b off n c ((List.range n).map Z) (by simp) (fun i hi => by rw [h.cell i hi]; simp [hi]) 9 Tryz.underlying9
theorem vals_cell {Y : Nat → Int} {n j : Nat} {u : Value} (hu : (vals Y n)[j]? = some u) : j < n ∧ u = .int .u8 (Y j) := by
  have hj : j < n := by
    rcases Nat.lt_or_ge j n with x | x
    · exact x
    · rw [List.getElem?_eq_none (by simpa [vals] using x)] at hu; cases hu
  refine ⟨hj, ?_⟩
  unfold vals at hu
  rw [List.getElem?_map, List.getElem?_range hj] at hu
  exact (Option.some.inj hu).symm
theorem vals_one {Y : Nat → Int} {n : Nat} : ∀ u ∈ vals Y n, u.oneCell' = true := by
  intro u hu
  obtain ⟨i, _, rfl⟩ := List.mem_map.1 hu
  rfl
theorem vals_app (Y : Nat → Int) (k n : Nat) (Z : Nat → Int) (h : ∀ i, i < n → Y (k + i) = Z i) : vals Y k ++ vals Z n = vals Y (k + n) := by
  induction n with
  | zero => simp [vals]
  | succ n ih =>
    rw [← vals_succ Z n, ← List.append_assoc, ih (fun i hi => h i (by omega)), ← h n (by omega), vals_succ, Nat.add_assoc]
theorem vals_congr {Y Z : Nat → Int} {n : Nat} (h : ∀ i, i < n → Y i = Z i) : vals Y n = vals Z n := by
  unfold vals
  refine List.map_congr_left (fun i hi => ?_)
  rw [h i (by simpa using hi)]
theorem grown_below {B : Nat} {w w' : World} {v : Value} {e size n : Nat} {xs : List Value} {B0 : Nat} (hg : w.grownBy w' v.ownBlock) (ho : w.ownsRow B0 e size v n xs) (h0 : B ≤ B0) (hB : B ≤ w.heap.size) : Below B w w' :=
  ⟨hg.os, hg.tape, hg.output, hg.size, fun k hk => hg.block k (by omega) (fun e => by have := (ho.lt k e.symm).1; omega)⟩
theorem wpList_append_bytes {w : World} {ops : Array Oper} {rest : List Oper} {o : Oper} {a : Act} {Q : Exit → Act → World → Prop} (hgd : o.guard = none) (s x : Operand)
    (ho : o.op = .call { callee := .builtin .append, args := #[s, x], argTypes := #[33, 33] }) (base : Nat) (v : Value) (k : Nat) (xs : List Value) (hs : a.eval s = v) (hown : w.ownsRow base 5 1 v k xs)
    (sa : Option Addr) (b off n c : Nat) (Y : Nat → Int) (hx : a.eval x = .slice sa n c) (hv : View w sa b off n Y) (hnil : sa = none → c = 0) (hk : k + n ≤ 140737488355328) (hbase : base ≤ w.heap.size)
    (h : ∀ v' w', w'.ownsRow base 5 1 v' (k + n) (xs ++ vals Y n) → w.grownBy w' v.ownBlock → (v' = .slice none 0 0 → v = .slice none 0 0) → wpList Tryz.prog ops Q rest (a.put o.dst v') w') : wpList Tryz.prog ops Q (o :: rest) a w := by
  obtain ⟨i0, hi0, hz0, hz1, hz2⟩ := info_parts Tryz.info5
  cases sa with
  | none =>
    have hn : n = 0 := by
      rcases Nat.eq_zero_or_pos n with e | e
      · exact e
      · cases hv.at_ e
    subst hn
    obtain rfl := hnil rfl
    refine wpList_append_own_none hgd s x 33 ho base 5 i0 1 Tryz.underlying33 hi0 v k xs hs hown hx ?_
    refine h v w ?_ ⟨rfl, rfl, rfl, Nat.le_refl _, fun _ _ _ => rfl⟩ id
    simpa [vals] using hown
  | some p =>
    refine wpList_append_own _ hgd s x 33 ho base 5 i0 (.int .u8 0) 1 1 Tryz.underlying33 hi0 hz0 hz1 hz2 rfl (by decide) v k xs hs hown p n c (vals Y n) hx (by simp [vals]) ?_ vals_one (by unfold maxLen; omega) (by omega) hbase (fun v' w' h1 h2 h3 => h v' w' h1 h2 (fun e => (h3.1 e).1))
    intro j u hu
    obtain ⟨hj, rfl⟩ := vals_cell hu
    have hp : p = ⟨b, off, none⟩ := Option.some.inj (hv.at_ (by omega))
    subst hp
    rw [Go.WideShapes.add_plain]
    exact hv.cell j hj
/-- one byte -/
theorem view_new1 (w : World) (x : Int) (h0 : 0 ≤ x) (h1 : x ≤ 255) : View (w.alloc (.cells #[.int .u8 x] 5)) (some ⟨w.heap.size, 0, none⟩) w.heap.size 0 1 (fun _ => x) := by
  refine ⟨fun _ => rfl, fun i hi => ?_, fun _ _ => ⟨h0, h1⟩, by omega⟩
  have : i = 0 := by omega
  subst this
  rw [cell_of_row _ _ _ _ 5 _ (heap_alloc_new w _)]
  rfl
theorem vals1 (x : Int) : vals (fun _ => x) 1 = [.int .u8 x] := rfl
theorem info5size : (Tryz.prog.info? 5).map (·.size) = some 1 := by kernel_rfl
theorem own_base {w : World} {B e size n : Nat} {v : Value} {xs : List Value} (h : w.ownsRow B e size v n xs) : w.ownsRow 0 e size v n xs := by
  refine ⟨h.1, ?_⟩
  rcases h.2 with q | ⟨g, cap, cur, hv, hb, r⟩
  · exact Or.inl q
  · exact Or.inr ⟨g, cap, cur, hv, Nat.zero_le _, r⟩
theorem own_rebase {w : World} {B C e size n : Nat} {v : Value} {xs : List Value} (h : w.ownsRow B e size v n xs) (hc : ∀ g, v.ownBlock = some g → C ≤ g) : w.ownsRow C e size v n xs := by
  refine ⟨h.1, ?_⟩
  rcases h.2 with q | ⟨g, cap, cur, hv, hb, r⟩
  · exact Or.inl q
  · exact Or.inr ⟨g, cap, cur, hv, hc g (by rw [hv]; rfl), r⟩
theorem own_block {w : World} {base e size n : Nat} {v : Value} {xs : List Value} (h : w.ownsRow base e size v n xs) {g : Nat} (hv : v.ownBlock = some g) : ∃ cur, w.heap[g]? = some (.cells cur e (0, 0)) := by
  rcases h.2 with ⟨rfl, _⟩ | ⟨g', cap, cur, rfl, _, hg, _⟩
  · simp [Value.ownBlock] at hv
  · simp only [Value.ownBlock, Option.some.injEq] at hv
    subst hv
    exact ⟨cur, hg⟩
theorem own_ne_cells {w : World} {base e size n : Nat} {v : Value} {xs : List Value} (h : w.ownsRow base e size v n xs) {g : Nat} {cs : Array Value} {t : TypeId} {fz : Nat × Nat} (hg : w.heap[g]? = some (.cells cs t fz)) (ht : t ≠ e) : v.ownBlock ≠ some g := by
  intro q
  obtain ⟨cur, hc⟩ := own_block h q
  rw [hg] at hc
  injection hc with hc
  injection hc with _ h2
  exact ht h2
theorem own_slice {w : World} {B e s n : Nat} {v : Value} {xs : List Value} (h : w.ownsRow B e s v n xs) : ∃ a c, v = .slice a n c := by
  rcases h.2 with ⟨rfl, h0⟩ | ⟨g, cap, cur, rfl, _⟩
  · exact ⟨none, 0, by rw [h0]⟩
  · exact ⟨_, cap, rfl⟩
theorem add_flat (g i : Nat) : (⟨g, 0, none⟩ : Addr).add i = ⟨g, i, none⟩ := by unfold Addr.add; split <;> simp_all
def Sep (u v : Value) : Prop := ∀ g, u.ownBlock = some g → v.ownBlock ≠ some g
theorem Sep.symm {u v : Value} (h : Sep u v) : Sep v u := fun g h1 h2 => h g h2 h1
theorem vals_bv (s : List Nat) : vals (fun i => ((gd s i : Nat) : Int)) s.length = bv s := by
  apply List.ext_getElem?
  intro i
  by_cases h : i < s.length
  · rw [bv_at h]
    unfold vals
    rw [List.getElem?_map, List.getElem?_range h]
    rfl
  · rw [List.getElem?_eq_none (by simp [vals]; omega), List.getElem?_eq_none (by simp [bv]; omega)]
theorem bv_app (s t : List Nat) : bv (s ++ t) = bv s ++ bv t := by simp [bv]
theorem elem24 : Tryz.prog.elem 33 = 5 := by kernel_rfl
theorem size5 (w : World) : (sizeOf 5).run Tryz.prog w = .ok 1 w := by
  have := info5size
  cases hq : Tryz.prog.info? 5 with
  | none => simp [hq] at this
  | some i => simp [hq] at this; simp [sizeOf, typeInfo, hq, this]
theorem slice_upto (a : Option Addr) (n c K : Nat) (h : K ≤ c) (w : World) : (Instr.slice 33 (.slice a n c) none (some (.int .i64 K)) none).run Tryz.prog w = .ok (.slice a K c) w := by
  rw [run_slice_h w 33 a n c (by rw [elem24]; exact Tryz.underlying33) .i64 K (by omega) (by omega), elem24, size5]
  simp only [Result.andThen, sliced]
  congr 1
  cases a <;> simp [Addr.add]
theorem sliceAt_upto (a : Option Addr) (n c K : Nat) (h : K ≤ c) (w : World) : (Instr.sliceAt 33 (.slice a n c) none (some (.int .i64 K)) none).run Tryz.prog w = .ok (.slice a K c) w := by
  rw [run_sliceAt_slice w 33 _ _ _ _ (by rw [elem24]; exact Tryz.underlying33), slice_upto a n c K h w]
/-- where a list begins behind its first K -/
def behind (a : Option Addr) (c K : Nat) : Option Addr := if c = K then a else a.map (·.add K)
theorem slice_from (a : Option Addr) (n c K : Nat) (h : K ≤ n) (w : World) : (Instr.slice 33 (.slice a n c) (some (.int .i64 K)) none none).run Tryz.prog w = .ok (.slice (behind a c K) (n - K) (c - K)) w := by
  rw [run_slice_l w 33 a n c (by rw [elem24]; exact Tryz.underlying33) .i64 K (by omega) (by omega), elem24, size5]
  simp only [Result.andThen, sliced, behind]
  simp
theorem sliceAt_from (a : Option Addr) (n c K : Nat) (h : K ≤ n) (w : World) : (Instr.sliceAt 33 (.slice a n c) (some (.int .i64 K)) none none).run Tryz.prog w = .ok (.slice (behind a c K) (n - K) (c - K)) w := by
  rw [run_sliceAt_slice w 33 _ _ _ _ (by rw [elem24]; exact Tryz.underlying33), slice_from a n c K h w]
theorem own_some {w : World} {B n : Nat} {v : Value} {xs : List Value} (h : w.ownsRow B 5 1 v n xs) (hn : v ≠ .slice none 0 0) : ∃ g cap, v = .slice (some ⟨g, 0, none⟩) n cap ∧ n ≤ cap ∧ B ≤ g ∧ g < w.heap.size := by
  rcases h.2 with ⟨h0, _⟩ | ⟨g, cap, cur, hv, hB, hg, hc, _⟩
  · exact absurd h0 hn
  · have := h.lt g (by rw [hv]; rfl)
    exact ⟨g, cap, hv, hc, hB, this.2⟩
/-- bytes appended, as one step of a region that draws its order -/
theorem step_append_bytes {w : World} {ops : Array Oper} {o : Oper} {a : Act} {K : Act → World → Prop} {Q : Exit → Act → World → Prop} {E : Prop} (hgd : o.guard = none) (s x : Operand)
    (ho : o.op = .call { callee := .builtin .append, args := #[s, x], argTypes := #[33, 33] }) (base : Nat) (v : Value) (k : Nat) (xs : List Value) (hs : a.eval s = v) (hown : w.ownsRow base 5 1 v k xs)
    (sa : Option Addr) (b off n c : Nat) (Y : Nat → Int) (hx : a.eval x = .slice sa n c) (hv : View w sa b off n Y) (hnil : sa = none → c = 0) (hk : k + n ≤ 140737488355328) (hbase : base ≤ w.heap.size)
    (h : ∀ v' w', w'.ownsRow base 5 1 v' (k + n) (xs ++ vals Y n) → w.grownBy w' v.ownBlock → (v' = .slice none 0 0 → v = .slice none 0 0) → K (a.put o.dst v') w') : if Region.wanted o (yielded ops a.tmps) = true then Oper.wp Tryz.prog o a w K Q else E := by
  have hw : Region.wanted o (yielded ops a.tmps) = true := by simp [Region.wanted, hgd]
  rw [if_pos hw]
  obtain ⟨i0, hi0, hz0, hz1, hz2⟩ := info_parts Tryz.info5
  cases sa with
  | none =>
    have hn : n = 0 := by
      rcases Nat.eq_zero_or_pos n with e | e
      · exact e
      · cases hv.at_ e
    subst hn
    obtain rfl := hnil rfl
    have hrun := run_append_owned_none (P := Tryz.prog) (w := w) base 33 o.type 5 i0 1 Tryz.underlying33 hi0 v k xs hown
    unfold Oper.wp
    simp [execOp, ho, resolve, invoke, builtin, hs, hx, hrun, Result.andThen]
    refine h v w ?_ ⟨rfl, rfl, rfl, Nat.le_refl _, fun _ _ _ => rfl⟩ id
    simpa [vals] using hown
  | some p =>
    refine wp_append_own _ s x 33 ho base 5 i0 (.int .u8 0) 1 1 Tryz.underlying33 hi0 hz0 hz1 hz2 rfl (by decide) v k xs hs hown p n c (vals Y n) hx (by simp [vals]) ?_ vals_one (by unfold maxLen; omega) (by omega) hbase (fun v' w' h1 h2 h3 => h v' w' h1 h2 (fun e => (h3.1 e).1))
    intro j u hu
    obtain ⟨hj, rfl⟩ := vals_cell hu
    have hp : p = ⟨b, off, none⟩ := Option.some.inj (hv.at_ (by omega))
    subst hp
    rw [Go.WideShapes.add_plain]
    exact hv.cell j hj
end Go.Proofs.YtddpcoglbmlgcaaGreatDoor
