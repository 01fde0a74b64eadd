import Derived.Test.YtlhllbggnpcoaaaDoorMacB
import Derived.Test.YtlhllbggnpcoaaaDoorSl
/-
  mac: a code on its way, in memory.
-/
namespace Go.Proofs.YtlhllbggnpcoaaaDoor
open Go.RowKit

def EK (O : Nat → Nat) : Env := ⟨128, 137, fun i => .int .u8 (O (i - 73)), by omega⟩
def stL (s : W8) (R : Nat → Nat) (n : Nat) : List Value := (List.range 73).map (stc E0.tl s R n)
def blkL (B : Nat → Nat) : List Value := (List.range 64).map (fun i => Value.int .u8 (B i))
/-- all cells of a code on its way -/
def kA (s : W8) (R : Nat → Nat) (n : Nat) (O : Nat → Nat) : Array Value := ((List.range 137).map (stc (EK O).tl s R n)).toArray
theorem kA_size (s : W8) (R : Nat → Nat) (n : Nat) (O : Nat → Nat) : (kA s R n O).size = 137 := by simp [kA]
theorem kA_cell (s : W8) (R : Nat → Nat) (n : Nat) (O : Nat → Nat) : ∀ i, i < 137 → (kA s R n O)[i]? = some (stc (EK O).tl s R n i) := by
  intro i hi
  unfold kA
  rw [List.getElem?_toArray, List.getElem?_map, List.getElem?_range hi]
  rfl
set_option maxRecDepth 100000 in
theorem built61 (s : W8) (R : Nat → Nat) (n : Nat) (O : Nat → Nat) : Tryd.prog.built 128 [(0, .agg (stL s R n).toArray), (1, .agg (blkA O))] = some (kA s R n O) := by kernel_rfl
theorem stL_len (s : W8) (R : Nat → Nat) (n : Nat) : (Tryd.prog.info? 97).map (·.size) = some (stL s R n).length := by
  unfold stL
  simp only [List.length_map, List.length_range]
  exact (zero_of_info info54).2
theorem blkL_len (B : Nat → Nat) : (Tryd.prog.info? 95).map (·.size) = some (blkL B).length := by
  unfold blkL
  simp only [List.length_map, List.length_range]
  exact info64s
theorem StRow.range {E : Env} {w : World} {p : Nat} {s : W8} {R : Nat → Nat} {n : Nat} (h : StRow E w p s R n) : w.rangeAt p 0 (stL s R n) := by
  intro j v hj
  have hl : j < 73 := by
    have := (List.getElem?_eq_some_iff.1 hj).1
    simpa [stL] using this
  rw [Nat.zero_add, StRow.part h j (by rw [stA_size]; exact hl)]
  unfold stA
  rw [List.getElem?_toArray]
  exact hj
/-- sixty-four bytes from a place on -/
theorem blk_range {w : World} {g o : Nat} {B : Nat → Nat} (h : ∀ i, i < 64 → w.cell? ⟨g, o + i, none⟩ = some (.int .u8 (B i))) : w.rangeAt g o (blkL B) := by
  intro j v hj
  have hl : j < 64 := by
    have := (List.getElem?_eq_some_iff.1 hj).1
    simpa [blkL] using this
  rw [h j hl]
  unfold blkL at hj
  rw [List.getElem?_map, List.getElem?_range hl] at hj
  exact hj

theorem cat_assoc (a m : Nat) (I X Y : Nat → Nat) : cat (a + m) (cat a I X) Y = cat a I (cat m X Y) := by
  funext i
  unfold cat
  by_cases h1 : i < a
  · rw [if_pos (by omega), if_pos h1, if_pos h1]
  · rw [if_neg h1]
    by_cases h2 : i - a < m
    · rw [if_pos (by omega), if_neg h1, if_pos h2]
    · rw [if_neg (by omega), if_neg h1, if_neg h2, show i - (a + m) = i - a - m by omega]

/-- A CODE ON ITS WAY, AT p: the secret's block B, the m bytes X. -/
structure Kd (w : World) (p : Nat) (B : Nat → Nat) (m : Nat) (X : Nat → Nat) : Prop where
  st : StG (EK (msk 92 B)) w p (64 + m) (cat 64 (msk 54 B) X)
  bd : ∀ i, B i < 256
  bx : ∀ i, X i < 256
theorem Kd.lt {w : World} {p : Nat} {B : Nat → Nat} {m : Nat} {X : Nat → Nat} (h : Kd w p B m X) : p < w.heap.size := h.st.lt
theorem Kd.below {w w' : World} {p : Nat} {B : Nat → Nat} {m : Nat} {X : Nat → Nat} (h : Kd w p B m X) (hb : Below w.heap.size w w') : Kd w' p B m X := ⟨h.st.below hb, h.bd, h.bx⟩
theorem Kd.save {w w' : World} {p q : Nat} {B : Nat → Nat} {m : Nat} {X : Nat → Nat} (h : Kd w p B m X) (hb : Save q w w') (hp : p ≠ q) : Kd w' p B m X := ⟨h.st.save hb hp, h.bd, h.bx⟩
theorem Kd.congr {w : World} {p : Nat} {B : Nat → Nat} {m : Nat} {X Y : Nat → Nat} (h : Kd w p B m X) (hY : ∀ i, Y i < 256) (e : ∀ i, i < m → X i = Y i) : Kd w p B m Y :=
  ⟨h.st.congr (cat_lt (msk_lt (by decide) h.bd) hY) (fun i hi => by
    unfold cat
    by_cases h1 : i < 64
    · rw [if_pos h1, if_pos h1]
    · rw [if_neg h1, if_neg h1, e _ (by omega)]), h.bd, hY⟩
theorem Kd.outer {w : World} {p : Nat} {B : Nat → Nat} {m : Nat} {X : Nat → Nat} (h : Kd w p B m X) : ∀ i, i < 64 → w.cell? ⟨p, 73 + i, none⟩ = some (.int .u8 (msk 92 B i)) := by
  intro i hi
  obtain ⟨R, r, _⟩ := h.st.ex
  rw [World.rowIs.cell r (i := 73 + i) (by show 73 + i < 137; omega)]
  unfold stc
  rw [if_neg (by omega), if_neg (by omega), if_neg (by omega)]
  show some (Value.int .u8 (msk 92 B (73 + i - 73) : Nat)) = _
  rw [show 73 + i - 73 = i by omega]
/-- the code of m bytes X under the block B -/
def hmac (B : Nat → Nat) (m : Nat) (X : Nat → Nat) : W8 := digest 96 (cat 64 (msk 92 B) (hb (digest (64 + m) (cat 64 (msk 54 B) X))))

set_option maxRecDepth 100000 in
theorem mwrite_any (w : World) (p : Nat) (B : Nat → Nat) (m : Nat) (X : Nat → Nat) (h : Kd w p B m X) (a : Option Addr) (b off k c : Nat) (Y : Nat → Nat) (hv : View w a b off k (fun i => (Y i : Int))) (hY : ∀ i, Y i < 256) (hbp : 0 < k → b ≠ p) (hkc : k ≤ c)
    (hG : Ground w) (hp : p ≠ 2) (hlen : 64 + m + k ≤ 1152921504606846976) :
    Calls Tryd.prog 63 #[.pointer (some ⟨p, 0, none⟩), .slice a k c] w fun e w' => e = .returned (.tuple #[]) ∧ Save p w w' ∧ Kd w' p B (m + k) (cat m X Y) := by
  have c1 := write_any w p (64 + m) _ h.st a b off k c Y hv hY hbp hkc hG.roots hG.big hp hlen
  have hb := h.bd
  have hx := h.bx
  clear h hv hG
  go_enter Tryd.func63, Tryd.ntmps63
  go_wp2_with fail
  refine c1.mono ?_
  rintro _ w1 ⟨rfl, hs, st⟩
  rw [cat_assoc, Nat.add_assoc] at st
  have HK : Hid (Save p w w1 ∧ Kd w1 p B (m + k) (cat m X Y)) := ⟨hs, st, hb, cat_lt hx hY⟩
  clear hs st c1
  go_wp2_with fail
  go_end0
  exact ⟨rfl, HK.out⟩
theorem mwrite_nil (w : World) (v : Value) : Calls Tryd.prog 63 #[.pointer none, v] w fun e w' => e = .returned (.tuple #[]) ∧ w' = w := by
  go_enter Tryd.func63, Tryd.ntmps63
  go_wp2
  refine bodyPost_ret (results_none rfl _ _ _) rfl ?_
  exact ⟨rfl, rfl⟩
theorem mcode_nil (w : World) : Calls Tryd.prog 64 #[.pointer none] w fun e w' => e = .returned (.agg Z32) ∧ Below w.heap.size w w' := by
  go_enter Tryd.func64, Tryd.ntmps64
  go_wp2_with (refine wpList_store_row rfl 31 (.tmp 2) (.tmp 6) rfl w.heap.size Z32 rfl rfl 31 Z32 (heap_alloc_new _ _) info26 rfl Z32_one ?_)
  refine bodyPost_ret (v := .agg Z32) ?_ rfl ?_
  · exact results_cell_row rfl _ _ w.heap.size 31 Z32 (0, 0) _ rfl (setRow_heap _ _ _ _ _ _ (heap_alloc_new _ _)) Tryd.underlying31 rfl info26
  · exact ⟨rfl, below_setRow ((Below.refl _ _).alloc (Nat.le_refl _) _) (Nat.le_refl _) _⟩
end Go.Proofs.YtlhllbggnpcoaaaDoor
