import Derived.Test.YtpmdjopojcgpeaaGreatDoorQPrsq
import Derived.Maps.RangeWalk
import Derived.Maps.Ext
import Derived.Maps.OwnSet
import Derived.Maps.AppendAt
import Derived.DeepKeys4
import Derived.Laws.CopyOwn
/-
  What of the heap a call turns; strings and lists of strings in memory.
-/
namespace Go.Proofs.YtpmdjopojcgpeaaGreatDoor.Dg
open Go.RowKit

/-- EVERY OLD BLOCK BUT THOSE OF F IS AS IT WAS. -/
structure Turn (F : Nat → Prop) (w w' : World) : Prop where
  os : w'.os = w.os
  tape : w'.tape = w.tape
  output : w'.output = w.output
  size : w.heap.size ≤ w'.heap.size
  block : ∀ k, k < w.heap.size → ¬ F k → w'.heap[k]? = w.heap[k]?

theorem Turn.refl (F : Nat → Prop) (w : World) : Turn F w w := ⟨rfl, rfl, rfl, Nat.le_refl _, fun _ _ _ => rfl⟩
theorem Turn.trans {F G : Nat → Prop} {a b c : World} (h : Turn F a b) (k : Turn G b c) (hG : ∀ i, G i → F i ∨ a.heap.size ≤ i) : Turn F a c :=
  ⟨k.os.trans h.os, k.tape.trans h.tape, k.output.trans h.output, Nat.le_trans h.size k.size, fun i hi hF =>
    (k.block i (Nat.lt_of_lt_of_le hi h.size) (fun g => by rcases hG i g with q | q; exact hF q; omega)).trans (h.block i hi hF)⟩
theorem Turn.mono {F G : Nat → Prop} {a b : World} (h : Turn F a b) (hFG : ∀ i, F i → G i ∨ a.heap.size ≤ i) : Turn G a b :=
  ⟨h.os, h.tape, h.output, h.size, fun i hi hG => h.block i hi (fun f => by rcases hFG i f with q | q; exact hG q; omega)⟩
theorem Turn.of_below {F : Nat → Prop} {w w' : World} (h : Below w.heap.size w w') : Turn F w w' := ⟨h.os, h.tape, h.output, h.size, fun k hk _ => h.block k hk⟩
theorem Turn.of_grown {F : Nat → Prop} {w w' : World} {row : Option Nat} (h : w.grownBy w' row) (hr : ∀ k, row = some k → F k) : Turn F w w' :=
  ⟨h.os, h.tape, h.output, h.size, fun k hk hF => h.block k hk (fun e => hF (hr k e.symm))⟩
theorem Turn.setCell {F : Nat → Prop} (w : World) (a : Addr) (v : Value) (hb : F a.block) : Turn F w (w.setCell a v) :=
  ⟨rfl, rfl, rfl, by simp [World.setCell], fun k _ hk => Below.heap_setCell _ _ _ _ (fun e => hk (e ▸ hb))⟩
theorem Turn.setRow {F : Nat → Prop} (w : World) (g : Nat) (cs : Array Value) (hb : F g) : Turn F w (w.setRow g cs) :=
  ⟨rfl, rfl, rfl, by simp, fun k _ hk => setRow_other w g k cs (fun e => hk (e ▸ hb))⟩
theorem Turn.alloc {F : Nat → Prop} (w : World) (o : Obj) : Turn F w (w.alloc o) := Turn.of_below ((Below.refl _ _).alloc (Nat.le_refl _) _)
theorem Turn.drewN {F : Nat → Prop} (w : World) (q : Nat) : Turn F w (w.drewN q) := ⟨rfl, rfl, rfl, Nat.le_refl _, fun _ _ _ => rfl⟩
theorem Turn.drew {F : Nat → Prop} (w : World) : Turn F w w.drew := ⟨rfl, rfl, rfl, Nat.le_refl _, fun _ _ _ => rfl⟩
theorem Turn.below {F : Nat → Prop} {w w' : World} (h : Turn F w w') {B : Nat} (hF : ∀ i, F i → B ≤ i) (hB : B ≤ w.heap.size) : Below B w w' :=
  ⟨h.os, h.tape, h.output, h.size, fun k hk => h.block k (by omega) (fun f => by have := hF k f; omega)⟩
theorem Turn.cell {F : Nat → Prop} {w w' : World} (h : Turn F w w') {q : Addr} (hq : q.block < w.heap.size) (hp : ¬ F q.block) : w'.cell? q = w.cell? q := World.cell?_of_block (w := w) (h.block q.block hq hp)
theorem Turn.grown {F : Nat → Prop} {w w' : World} (h : Turn F w w') (hF : ∀ k, F k → w.heap.size ≤ k) : w.grownBy w' none := ⟨h.os, h.tape, h.output, h.size, fun k hk _ => h.block k hk (fun f => by have := hF k f; omega)⟩

theorem View.turn {F : Nat → Prop} {w w' : World} {a : Option Addr} {b off n : Nat} {Z : Nat → Int} (h : View w a b off n Z) (hs : Turn F w w') (hb : 0 < n → ¬ F b) : View w' a b off n Z :=
  ⟨h.at_, fun i hi => (hs.cell (q := ⟨b, off + i, none⟩) (h.lt (by omega)) (hb (by omega))).trans (h.cell i hi), h.bd, h.len⟩
theorem own_turn {F : Nat → Prop} {w w' : World} {base e size n : Nat} {v : Value} {xs : List Value} (h : w.ownsRow base e size v n xs) (hs : Turn F w w') (hv : ∀ g, v.ownBlock = some g → ¬ F g) : w'.ownsRow base e size v n xs := by
  have hlt := h.lt
  obtain ⟨h1, h2⟩ := h
  refine ⟨h1, ?_⟩
  rcases h2 with hn | ⟨g, cap, cur, rfl, hb, hg, rest⟩
  · exact Or.inl hn
  · exact Or.inr ⟨g, cap, cur, rfl, hb, (hs.block g (hlt g rfl).2 (hv g rfl)).trans hg, rest⟩
theorem map_turn {H : Type} {P : Program} {k : TypeId} {R : Value → Option (DataW H × List MemPlace)} {F : Nat → Prop} {w w' : World} {b n : Nat} {D : DataW H} (h : w.ownsMap P k R b n D) (hs : Turn F w w') (hb : ¬ F b) : w'.ownsMap P k R b n D := by
  have hlt := h.lt
  obtain ⟨es, clock, hg, r⟩ := h
  exact ⟨es, clock, (hs.block b hlt hb).trans hg, r⟩

/-! ### strings -/
def gd (s : List Nat) (i : Nat) : Nat := s.getD i 0
def Bs (s : List Nat) : Prop := s.length ≤ 281474976710656 ∧ ∀ x ∈ s, x < 256
def bv (s : List Nat) : List Value := s.map (fun x : Nat => Value.int .u8 (x : Int))
theorem bv_len (s : List Nat) : (bv s).length = s.length := by simp [bv]
theorem gd_lt {s : List Nat} (h : ∀ x ∈ s, x < 256) (i : Nat) : gd s i < 256 := by
  unfold gd
  rw [List.getD_eq_getElem?_getD]
  cases hi : s[i]? with
  | none => decide
  | some x => exact h x (List.mem_of_getElem? hi)
theorem gd_get {s : List Nat} {i : Nat} (h : i < s.length) : s[i] = gd s i := by
  unfold gd
  rw [List.getD_eq_getElem?_getD, List.getElem?_eq_getElem h]
  rfl
theorem bv_at {s : List Nat} {i : Nat} (h : i < s.length) : (bv s)[i]? = some (.int .u8 (gd s i : Nat)) := by
  unfold bv
  rw [List.getElem?_map, List.getElem?_eq_getElem h, gd_get h]
  rfl
/-- THE SLICE VALUE OF s.length BYTES HOLDS s. -/
abbrev Vw (w : World) (a : Option Addr) (b off : Nat) (s : List Nat) : Prop := View w a b off s.length (fun i => ((gd s i : Nat) : Int))
theorem vw_ok {w : World} {a : Option Addr} {b off : Nat} {s : List Nat} (h : Vw w a b off s) : Bs s :=
  ⟨h.len, fun x hx => by
    obtain ⟨i, hi, rfl⟩ := List.getElem_of_mem hx
    have := h.bd i hi
    rw [gd_get hi]
    omega⟩
theorem ext_gd {s t : List Nat} (hl : s.length = t.length) (h : ∀ i, i < s.length → gd s i = gd t i) : s = t :=
  List.ext_getElem hl (fun i h1 h2 => by rw [gd_get h1, gd_get h2, h i h1])
/-- the list of n bytes -/
def lst (n : Nat) (Y : Nat → Nat) : List Nat := (List.range n).map Y
theorem lst_len (n : Nat) (Y : Nat → Nat) : (lst n Y).length = n := by simp [lst]
theorem lst_gd {n : Nat} {Y : Nat → Nat} {i : Nat} (h : i < n) : gd (lst n Y) i = Y i := by
  unfold gd lst
  rw [List.getD_eq_getElem?_getD, List.getElem?_map, List.getElem?_range h]
  rfl
theorem vw_of {w : World} {a : Option Addr} {b off n : Nat} {Y : Nat → Nat} (h : View w a b off n (fun i => (Y i : Int))) : Vw w a b off (lst n Y) := by
  unfold Vw
  rw [lst_len]
  exact h.congr (fun i hi => by rw [lst_gd hi])
theorem lst_of (s : List Nat) : lst s.length (gd s) = s := ext_gd (by rw [lst_len]) (fun i hi => by rw [lst_len] at hi; exact lst_gd hi)

/-- A STRING THAT LIES IN A BLOCK OF ITS OWN, one of F's. -/
structure Str (w : World) (F : Nat → Prop) (u : Value) (s : List Nat) : Prop where
  own : w.ownsRow 0 5 1 u s.length (bv s)
  foot : ∀ g, u.ownBlock = some g → F g
  ok : Bs s
theorem Str.view {w : World} {F : Nat → Prop} {u : Value} {s : List Nat} (h : Str w F u s) : ∃ a g c, u = .slice a s.length c ∧ s.length ≤ c ∧ Vw w a g 0 s ∧ (0 < s.length → F g ∧ g < w.heap.size) := by
  have hf := h.foot
  have hl := h.own.lt
  obtain ⟨hn, ho⟩ := h.own
  rcases ho with ⟨rfl, h0⟩ | ⟨g, cap, cur, rfl, hb, hg, h1, h2, h3, h4⟩
  · refine ⟨none, 0, 0, by rw [h0], by omega, ⟨fun k => by omega, fun i hi => by omega, fun i hi => by omega, by omega⟩, fun k => by omega⟩
  · refine ⟨_, g, cap, rfl, h1, ⟨fun _ => rfl, fun i hi => ?_, fun i hi => ?_, h.ok.1⟩, fun _ => ⟨hf g rfl, (hl g rfl).2⟩⟩
    · have := h.own.cells (g := g) rfl i _ (bv_at hi)
      rw [show (⟨g, 0, none⟩ : Addr).add i = ⟨g, 0 + i, none⟩ by unfold Addr.add; split <;> simp_all] at this
      exact this
    · have := gd_lt h.ok.2 i
      omega
theorem Str.turn {F G : Nat → Prop} {w w' : World} {u : Value} {s : List Nat} (h : Str w F u s) (hs : Turn G w w') (hd : ∀ i, F i → i < w.heap.size → ¬ G i) : Str w' F u s :=
  ⟨own_turn h.own hs (fun g hg => hd g (h.foot g hg) (h.own.lt g hg).2), h.foot, h.ok⟩
theorem Str.mono {F G : Nat → Prop} {w : World} {u : Value} {s : List Nat} (h : Str w F u s) (hd : ∀ i, F i → G i) : Str w G u s := ⟨h.own, fun g hg => hd g (h.foot g hg), h.ok⟩
theorem Str.one {F : Nat → Prop} {w : World} {u : Value} {s : List Nat} (h : Str w F u s) : u.oneCell' = true := by
  rcases h.own.2 with ⟨rfl, _⟩ | ⟨g, cap, cur, rfl, _⟩ <;> rfl
/-- a block of strings' bytes is no block of another type -/
theorem Str.ne {F : Nat → Prop} {w : World} {u : Value} {s : List Nat} (h : Str w F u s) {g : Nat} {cs : Array Value} {t : TypeId} {fz : Nat × Nat} (hg : w.heap[g]? = some (.cells cs t fz)) (ht : t ≠ 5) : u.ownBlock ≠ some g := by
  intro e
  rcases h.own.2 with ⟨rfl, _⟩ | ⟨g', cap, cur, rfl, _, hg', _⟩
  · simp [Value.ownBlock] at e
  · simp only [Value.ownBlock, Option.some.injEq] at e
    subst e
    rw [hg] at hg'
    injection hg' with hg'
    injection hg' with _ h2
    exact ht h2
theorem Str.neMap {F : Nat → Prop} {w : World} {u : Value} {s : List Nat} (h : Str w F u s) {g : Nat} {es : Array MapEntry} {clock : Nat} (hg : w.heap[g]? = some (.map es clock)) : u.ownBlock ≠ some g := by
  intro e
  rcases h.own.2 with ⟨rfl, _⟩ | ⟨g', cap, cur, rfl, _, hg', _⟩
  · simp [Value.ownBlock] at e
  · simp only [Value.ownBlock, Option.some.injEq] at e
    subst e
    rw [hg] at hg'
    injection hg' with hg'
    cases hg'

/-- SEVERAL STRINGS. -/
inductive Strs (w : World) (F : Nat → Prop) : List Value → List (List Nat) → Prop
  | nil : Strs w F [] []
  | cons {u : Value} {s : List Nat} {xs : List Value} {ls : List (List Nat)} (h : Str w F u s) (t : Strs w F xs ls) : Strs w F (u :: xs) (s :: ls)
theorem Strs.len {w : World} {F : Nat → Prop} {xs : List Value} {ls : List (List Nat)} (h : Strs w F xs ls) : xs.length = ls.length := by
  induction h with
  | nil => rfl
  | cons _ _ ih => simp [ih]
theorem Strs.imp {w w' : World} {F F' : Nat → Prop} {xs : List Value} {ls : List (List Nat)} (h : Strs w F xs ls) (k : ∀ u ∈ xs, ∀ s, Str w F u s → Str w' F' u s) : Strs w' F' xs ls := by
  induction h with
  | nil => exact .nil
  | cons a _ ih => exact .cons (k _ (by simp) _ a) (ih (fun u hu => k u (by simp [hu])))
theorem Strs.take {w : World} {F : Nat → Prop} {xs : List Value} {ls : List (List Nat)} (h : Strs w F xs ls) (i : Nat) : Strs w F (xs.take i) (ls.take i) := by
  induction h generalizing i with
  | nil => simp; exact .nil
  | cons a _ ih =>
    cases i with
    | zero => exact .nil
    | succ i => exact .cons a (ih i)
theorem Strs.drop {w : World} {F : Nat → Prop} {xs : List Value} {ls : List (List Nat)} (h : Strs w F xs ls) (i : Nat) : Strs w F (xs.drop i) (ls.drop i) := by
  induction h generalizing i with
  | nil => simp; exact .nil
  | cons a t ih =>
    cases i with
    | zero => exact .cons a t
    | succ i => exact ih i
theorem Strs.app {w : World} {F : Nat → Prop} {xs ys : List Value} {ls ms : List (List Nat)} (h : Strs w F xs ls) (k : Strs w F ys ms) : Strs w F (xs ++ ys) (ls ++ ms) := by
  induction h with
  | nil => exact k
  | cons a _ ih => exact .cons a ih
theorem Strs.get {w : World} {F : Nat → Prop} {xs : List Value} {ls : List (List Nat)} (h : Strs w F xs ls) : ∀ (i : Nat) (hi : i < ls.length), ∃ u, xs[i]? = some u ∧ Str w F u ls[i] := by
  induction h with
  | nil => intro i hi; simp at hi
  | cons a _ ih =>
    intro i hi
    cases i with
    | zero => exact ⟨_, rfl, a⟩
    | succ i => simpa using ih i (by simpa using hi)
theorem Strs.all {w : World} {F : Nat → Prop} {xs : List Value} {ls : List (List Nat)} (h : Strs w F xs ls) : ∀ u ∈ xs, ∃ s, Str w F u s := by
  induction h with
  | nil => simp
  | cons a _ ih =>
    intro u hu
    rcases List.mem_cons.1 hu with rfl | hu
    · exact ⟨_, a⟩
    · exact ih u hu
theorem Strs.ok {w : World} {F : Nat → Prop} {xs : List Value} {ls : List (List Nat)} (h : Strs w F xs ls) : ∀ s ∈ ls, Bs s := by
  induction h with
  | nil => simp
  | cons a _ ih =>
    intro s hs
    rcases List.mem_cons.1 hs with rfl | hs
    · exact a.ok
    · exact ih s hs
end Go.Proofs.YtpmdjopojcgpeaaGreatDoor.Dg
