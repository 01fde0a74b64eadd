import Derived.Test.YtpmdjopojcgpeaaGreatDoorQFoldq
import Derived.Laws.CopyOwn
/-
  A state in memory, and what a write to it leaves alone.
-/
namespace Go.Proofs.YtpmdjopojcgpeaaGreatDoor.Dg
open Go.RowKit

/-- EVERY BLOCK BUT p IS AS IT WAS. -/
structure Save (p : Nat) (w w' : World) : Prop where
  os : w'.os = w.os
  tape : w'.tape = w.tape
  output : w'.output = w.output
  size : w.heap.size ≤ w'.heap.size
  block : ∀ k, k < w.heap.size → k ≠ p → w'.heap[k]? = w.heap[k]?

theorem Save.refl (p : Nat) (w : World) : Save p w w := ⟨rfl, rfl, rfl, Nat.le_refl _, fun _ _ _ => rfl⟩
theorem Save.trans {p : Nat} {a b c : World} (h : Save p a b) (k : Save p b c) : Save p a c :=
  ⟨k.os.trans h.os, k.tape.trans h.tape, k.output.trans h.output, Nat.le_trans h.size k.size, fun i hi hp => (k.block i (Nat.lt_of_lt_of_le hi h.size) hp).trans (h.block i hi hp)⟩
theorem Save.of_below {p : Nat} {w w' : World} (h : Below w.heap.size w w') : Save p w w' := ⟨h.os, h.tape, h.output, h.size, fun k hk _ => h.block k hk⟩
theorem Save.below {p B : Nat} {w w' : World} (h : Save p w w') (hp : B ≤ p) (hB : B ≤ w.heap.size) : Below B w w' :=
  ⟨h.os, h.tape, h.output, h.size, fun k hk => h.block k (by omega) (by omega)⟩
theorem Save.drewN {p : Nat} {a b : World} (h : Save p a b) (q : Nat) : Save p a (b.drewN q) := ⟨h.os, h.tape, h.output, h.size, h.block⟩
theorem Save.drew {p : Nat} {a b : World} (h : Save p a b) : Save p a b.drew := ⟨h.os, h.tape, h.output, h.size, h.block⟩
theorem Save.setRow {p : Nat} {a b : World} (h : Save p a b) (cs : Array Value) : Save p a (b.setRow p cs) :=
  h.trans ⟨rfl, rfl, rfl, by simp, fun k _ hk => setRow_other b p k cs hk⟩
theorem Save.setCell {p : Nat} {a b : World} (h : Save p a b) (i : Nat) (v : Value) : Save p a (b.setCell ⟨p, i, none⟩ v) :=
  h.trans ⟨rfl, rfl, rfl, by simp [World.setCell], fun k _ hk => Below.heap_setCell _ _ _ _ hk⟩
theorem Save.cell {p : Nat} {w w' : World} (h : Save p w w') {q : Addr} (hq : q.block < w.heap.size) (hp : q.block ≠ p) : w'.cell? q = w.cell? q := World.cell?_of_block (w := w) (h.block q.block hq hp)
theorem Save.row {p : Nat} {w w' : World} (h : Save p w w') {b t n : Nat} {f : Nat → Value} (r : w.rowIs b t n f) (hp : b ≠ p) : w'.rowIs b t n f := r.of_block (h.block b r.lt hp)
theorem View.save {p : Nat} {w w' : World} {a : Option Addr} {b off n : Nat} {Z : Nat → Int} (h : View w a b off n Z) (hs : Save p w w') (hb : 0 < n → b ≠ p) : View w' a b off n Z :=
  ⟨h.at_, fun i hi => (hs.cell (q := ⟨b, off + i, none⟩) (h.lt (by omega)) (hb (by omega))).trans (h.cell i hi), h.bd, h.len⟩
theorem Roots.save {p : Nat} {w w' : World} (h : Roots w) (hs : Save p w w') (hw : 3 < w.heap.size) (hp : p ≠ 3) : Roots w' := fun i hi => (hs.cell (q := ⟨3, i, none⟩) hw (by show (3 : Nat) ≠ p; omega)).trans (h i hi)

/-- WHAT A STATE LIES IN: a block of its own, or another one's beginning: the block's type and size, the cells behind the state's. -/
structure Env where
  t : Nat
  N : Nat
  tl : Nat → Value
  big : 73 ≤ N
def E0 : Env := ⟨217, 73, fun _ => .int .u8 0, by omega⟩

/-- a state's cells: eight words, sixty-four bytes, the length; and what lies behind them -/
def stc (tl : Nat → Value) (s : W8) (R : Nat → Nat) (n : Nat) (i : Nat) : Value := if i < 8 then .int .u32 (w8 s i) else if i < 72 then .int .u8 (R (i - 8)) else if i = 72 then .int .i64 n else tl i
def StRow (E : Env) (w : World) (p : Nat) (s : W8) (R : Nat → Nat) (n : Nat) : Prop := w.rowIs p E.t E.N (stc E.tl s R n)

theorem StRow.len {E : Env} {w : World} {p : Nat} {s : W8} {R : Nat → Nat} {n : Nat} (h : StRow E w p s R n) : w.cell? ⟨p, 72, none⟩ = some (.int .i64 n) := h.cell (i := 72) (by have := E.big; omega)
theorem StRow.setLen {E : Env} {w : World} {p : Nat} {s : W8} {R : Nat → Nat} {n : Nat} (h : StRow E w p s R n) (m : Nat) : StRow E (w.setCell ⟨p, 72, none⟩ (.int .i64 m)) p s R m :=
  (h.set 72 _).congr (fun i hi => by
    unfold stc
    by_cases e : i = 72
    · rw [if_pos e, if_neg (by omega), if_neg (by omega), if_pos e]
    · rw [if_neg e]
      split
      · rfl
      · split
        · rfl
        · rfl)
/-- the eight words are written over -/
def eight (w : World) (p : Nat) (s : W8) : World :=
  (((((((w.setCell ⟨p, 0, none⟩ (.int .u32 s.a)).setCell ⟨p, 1, none⟩ (.int .u32 s.b)).setCell ⟨p, 2, none⟩ (.int .u32 s.c)).setCell ⟨p, 3, none⟩ (.int .u32 s.d)).setCell ⟨p, 4, none⟩ (.int .u32 s.e)).setCell ⟨p, 5, none⟩ (.int .u32 s.f)).setCell ⟨p, 6, none⟩ (.int .u32 s.g)).setCell ⟨p, 7, none⟩ (.int .u32 s.h)
theorem StRow.eight {E : Env} {w : World} {p : Nat} {s : W8} {R : Nat → Nat} {n : Nat} (h : StRow E w p s R n) (s' : W8) : StRow E (eight w p s') p s' R n :=
  ((((((((h.set 0 _).set 1 _).set 2 _).set 3 _).set 4 _).set 5 _).set 6 _).set 7 _).congr (fun i hi => by
    unfold stc
    by_cases e : i < 8
    · rw [if_pos e]
      match i, e with
      | 0, _ => rfl
      | 1, _ => rfl
      | 2, _ => rfl
      | 3, _ => rfl
      | 4, _ => rfl
      | 5, _ => rfl
      | 6, _ => rfl
      | 7, _ => rfl
    · rw [if_neg e, if_neg (by omega), if_neg (by omega), if_neg (by omega), if_neg (by omega), if_neg (by omega), if_neg (by omega), if_neg (by omega), if_neg (by omega), if_neg e])
theorem Save.eight {p : Nat} {a b : World} (h : Save p a b) (s : W8) : Save p a (eight b p s) :=
  (((((((h.setCell 0 _).setCell 1 _).setCell 2 _).setCell 3 _).setCell 4 _).setCell 5 _).setCell 6 _).setCell 7 _

/-- the bytes of a message, one behind the other -/
def cat (n : Nat) (X Y : Nat → Nat) (i : Nat) : Nat := if i < n then X i else Y (i - n)
/-- the words behind k blocks of a message -/
def folds (X : Nat → Nat) : Nat → W8
  | 0 => H0
  | k + 1 => fold1 (folds X k) (fun i => X (64 * k + i))
theorem folds_ok (X : Nat → Nat) (k : Nat) : Ok8 (folds X k) := by
  cases k with
  | zero => exact H0_ok
  | succ k => exact fold1_ok _ _
theorem folds_congr {X Y : Nat → Nat} (k : Nat) (h : ∀ i, i < 64 * k → X i = Y i) : folds X k = folds Y k := by
  induction k with
  | zero => rfl
  | succ k ih =>
    simp only [folds]
    rw [ih (fun i hi => h i (by omega)), fold1_congr (fun i hi => h (64 * k + i) (by omega))]

/-- A STATE THAT HAS TAKEN THE n BYTES X. -/
structure StG (E : Env) (w : World) (p n : Nat) (X : Nat → Nat) : Prop where
  ex : ∃ R, StRow E w p (folds X (n / 64)) R n ∧ (∀ i, R i < 256) ∧ ∀ i, i < n % 64 → R i = X (64 * (n / 64) + i)
  bd : ∀ i, X i < 256
theorem StG.lt {E : Env} {w : World} {p n : Nat} {X : Nat → Nat} (h : StG E w p n X) : p < w.heap.size := by obtain ⟨R, r, _⟩ := h.ex; exact r.lt
theorem StG.of_block {E : Env} {w w' : World} {p n : Nat} {X : Nat → Nat} (h : StG E w p n X) (e : w'.heap[p]? = w.heap[p]?) : StG E w' p n X := by
  obtain ⟨R, r, q⟩ := h.ex
  exact ⟨⟨R, r.of_block e, q⟩, h.bd⟩
theorem StG.below {E : Env} {w w' : World} {p n : Nat} {X : Nat → Nat} (h : StG E w p n X) (hb : Below w.heap.size w w') : StG E w' p n X := h.of_block (hb.block _ h.lt)
theorem StG.save {E : Env} {w w' : World} {p n q : Nat} {X : Nat → Nat} (h : StG E w p n X) (hb : Save q w w') (hp : p ≠ q) : StG E w' p n X := h.of_block (hb.block _ h.lt hp)
theorem StG.congr {E : Env} {w : World} {p n : Nat} {X Y : Nat → Nat} (h : StG E w p n X) (hY : ∀ i, Y i < 256) (e : ∀ i, i < n → X i = Y i) : StG E w p n Y := by
  obtain ⟨R, r, hR, q⟩ := h.ex
  have : n = 64 * (n / 64) + n % 64 := by omega
  refine ⟨⟨R, ?_, hR, fun i hi => (q i hi).trans (e _ (by omega))⟩, hY⟩
  rw [← folds_congr (n / 64) (fun i hi => e i (by omega))]
  exact r
abbrev St (w : World) (p n : Nat) (X : Nat → Nat) : Prop := StG E0 w p n X

/-- the cells of the state alone -/
def stA (s : W8) (R : Nat → Nat) (n : Nat) : Array Value := ((List.range 73).map (stc E0.tl s R n)).toArray
theorem stA_size (s : W8) (R : Nat → Nat) (n : Nat) : (stA s R n).size = 73 := by simp [stA]
theorem stA_cell (s : W8) (R : Nat → Nat) (n : Nat) : ∀ i, i < 73 → (stA s R n)[i]? = some (stc E0.tl s R n i) := by
  intro i hi
  unfold stA
  rw [List.getElem?_toArray, List.getElem?_map, List.getElem?_range hi]
  rfl
theorem stc_tl (tl tl' : Nat → Value) (s : W8) (R : Nat → Nat) (n i : Nat) (hi : i < 73) : stc tl s R n i = stc tl' s R n i := by
  unfold stc
  split
  · rfl
  · split
    · rfl
    · rw [if_pos (by omega), if_pos (by omega)]
theorem StRow.part {E : Env} {w : World} {p : Nat} {s : W8} {R : Nat → Nat} {n : Nat} (h : StRow E w p s R n) : ∀ j, j < (stA s R n).size → w.cell? ⟨p, j, none⟩ = (stA s R n)[j]? := by
  intro j hj
  rw [stA_size] at hj
  rw [stA_cell s R n j hj, World.rowIs.cell h (i := j) (by have := E.big; omega), stc_tl _ E0.tl _ _ _ _ hj]
end Go.Proofs.YtpmdjopojcgpeaaGreatDoor.Dg

/-
  The builtin copy, of bytes, into a row of whatever block.
-/
namespace Go.Proofs.YtpmdjopojcgpeaaGreatDoor.Dg
open Go.RowKit

theorem info5size : (Tryz.prog.info? 5).map (·.size) = some 1 := by kernel_rfl

theorem splice_cell {cur : Array Value} {N off cnt : Nat} {f : Nat → Value} {Z : Nat → Int} (hs : cur.size = N) (hc : ∀ i, i < N → cur[i]? = some (f i)) (hfit : off + cnt ≤ N) (cs : List Value) (hcs : cs = (List.range cnt).map (fun i => Value.int .u8 (Z i))) :
    ((cur.toList.take off ++ (cs ++ cur.toList.drop (off + cs.length))).toArray).size = N ∧ ∀ i, i < N → ((cur.toList.take off ++ (cs ++ cur.toList.drop (off + cs.length))).toArray)[i]? = some (if off ≤ i ∧ i < off + cnt then .int .u8 (Z (i - off)) else f i) := by
  have hl : cs.length = cnt := by rw [hcs]; simp
  have ht : (cur.toList.take off).length = off := by simp; omega
  refine ⟨by simp [hl]; omega, fun i hi => ?_⟩
  rw [List.getElem?_toArray]
  by_cases h1 : i < off
  · rw [List.getElem?_append_left (by omega), if_neg (by omega), List.getElem?_take_of_lt h1, Array.getElem?_toList]
    exact hc i hi
  · rw [List.getElem?_append_right (by omega), ht]
    by_cases h2 : i < off + cnt
    · rw [List.getElem?_append_left (by omega), if_pos ⟨by omega, h2⟩, hcs]
      rw [List.getElem?_map, List.getElem?_range (by omega)]
      rfl
    · rw [List.getElem?_append_right (by omega), if_neg (by omega), List.getElem?_drop, Array.getElem?_toList, hl, show off + cnt + (i - off - cnt) = i by omega]
      exact hc i hi

theorem wpList_copy_in {w : World} {ops : Array Oper} {rest : List Oper} {o : Oper} {a : Act} {Q : Exit → Act → World → Prop} (hgd : o.guard = none) (d s : Operand)
    (ho : o.op = .call { callee := .builtin .copy, args := #[d, s], argTypes := #[29, 29] })
    (g off dLen dCap t N : Nat) (f : Nat → Value) (hd : a.eval d = .slice (some ⟨g, off, none⟩) dLen dCap) (hr : w.rowIs g t N f) (hfit : off + dLen ≤ N)
    (sp : Option Addr) (b o2 m c : Nat) (Z : Nat → Int) (hs : a.eval s = .slice sp m c) (hv : View w sp b o2 m Z) (cnt : Nat) (hcnt : cnt = Nat.min m dLen)
    (h : ∀ w', Save g w w' → w'.rowIs g t N (fun i => if off ≤ i ∧ i < off + cnt then .int .u8 (Z (i - off)) else f i) → wpList Tryz.prog ops Q rest (a.put o.dst (.int .i64 cnt)) w') :
    wpList Tryz.prog ops Q (o :: rest) a w := by
  obtain ⟨cur, hg, hsz, hc⟩ := hr
  have hle : cnt ≤ m ∧ cnt ≤ dLen := by rw [hcnt]; exact ⟨Nat.min_le_left _ _, Nat.min_le_right _ _⟩
  by_cases h0 : cnt = 0
  · subst h0
    refine wpList_copy_nothing hgd d s 29 29 ho 5 Tryz.underlying29 info5size _ _ _ _ _ _ hd hs hcnt.symm ?_
    exact h w (Save.refl _ _) ⟨cur, hg, hsz, fun i hi => by show cur[i]? = some (if off ≤ i ∧ i < off + 0 then _ else f i); rw [if_neg (by omega)]; exact hc i hi⟩
  · obtain rfl := hv.at_ (by omega)
    have hl : ((List.range cnt).map (fun i => Value.int .u8 (Z i))).length = cnt := by simp
    refine wpList_copy_own hgd d s 29 29 ho 5 Tryz.underlying29 info5size g off dLen dCap ⟨b, o2, none⟩ m c hd hs cur t hg ((List.range cnt).map (fun i => Value.int .u8 (Z i))) (by rw [hl, hcnt]) ?_ (by rw [hl, hsz]; omega) ?_ ?_
    · intro j v hj
      have hjl : j < cnt := by
        have := (List.getElem?_eq_some_iff.1 hj).1
        omega
      rw [List.getElem?_map, List.getElem?_range hjl] at hj
      have e : v = .int .u8 (Z j) := by simpa using hj.symm
      subst e
      have hadd : (⟨b, o2, none⟩ : Addr).add j = ⟨b, o2 + j, none⟩ := by unfold Addr.add; split <;> simp_all
      rw [hadd]
      exact hv.cell j (by omega)
    · intro v hv'
      simp only [List.mem_map] at hv'
      obtain ⟨i, _, rfl⟩ := hv'
      rfl
    · have sp := splice_cell (Z := Z) hsz hc (by omega) _ rfl (cnt := cnt) (off := off)
      have hh := h (w.setRow g ((cur.toList.take off ++ (((List.range cnt).map (fun i => Value.int .u8 (Z i))) ++ cur.toList.drop (off + ((List.range cnt).map (fun i => Value.int .u8 (Z i))).length))).toArray)) ((Save.refl _ _).setRow _) (rowIs_setRow hg sp.1 sp.2)
      rw [hl] at hh ⊢
      exact hh
end Go.Proofs.YtpmdjopojcgpeaaGreatDoor.Dg
