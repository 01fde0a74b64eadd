import Derived.Test.YtadcbhjmbgenbaaDoorEqHq
import Derived.Test.YtadcbhjmbgenbaaDoorEvalq
import Derived.Test.YtadcbhjmbgenbaaDoorSmq
import Derived.Laws.IdiomStrings
import Derived.Lib.QuietBelow
import Derived.Deep.RegionLaw
import Derived.Deep.RegionHeld3
/-
  What all laws of mac lean on: the tables, a hash in a block of its own, the sum of one list.
-/
namespace Go.Proofs.YtadcbhjmbgenbaaDoor
open Go.RowKit Go.Sort

/-- all that the program keeps -/
structure Ground (w : World) : Prop where
  first : First w
  roots : Roots w
  big : 2 < w.heap.size
theorem Ground.below {w w' : World} (h : Ground w) (hb : Below w.heap.size w w') : Ground w' :=
  ⟨h.first.below hb (by have := h.big; omega), h.roots.below hb h.big, Nat.lt_of_lt_of_le h.big hb.size⟩
theorem Ground.save {w w' : World} (h : Ground w) {p : Nat} (hb : Save p w w') (hp : 2 < p) : Ground w' :=
  ⟨fun i hi => (hb.cell (q := ⟨1, i, none⟩) (by have := h.big; show (1 : Nat) < _; omega) (by show (1 : Nat) ≠ p; omega)).trans (h.first i hi), h.roots.save hb h.big (by omega), Nat.lt_of_lt_of_le h.big hb.size⟩

/-- the bytes of a text -/
def byt (s : ByteArray) (i : Nat) : Nat := (s.data.getD i 0).toNat
theorem byt_lt (s : ByteArray) (i : Nat) : byt s i < 256 := UInt8.toNat_lt _
theorem digest_congr {n : Nat} {X Y : Nat → Nat} (h : ∀ i, i < n → X i = Y i) : digest n X = digest n Y := by
  unfold digest
  refine folds_congr _ (fun i _ => ?_)
  unfold cat
  by_cases e : i < n
  · rw [if_pos e, if_pos e, h i e]
  · rw [if_neg e, if_neg e]
theorem digest_ego (n : Nat) (X : Nat → Nat) : digest n X = ego (cat n X (padb n)) ((n + (zend n + 8)) / 64) 0 H0 := folds_ego _ _
theorem view_text (w : World) (s : ByteArray) (hs : s.size ≤ 281474976710656) : View (w.drew.alloc (.cells (bytesRow s (grownCap w s.size 0 5)) 5 ((bytesRow s (grownCap w s.size 0 5)).size, (bytesRow s (grownCap w s.size 0 5)).size + 1))) (some ⟨w.heap.size, 0, none⟩) w.heap.size 0 s.size (fun i => (byt s i : Int)) := by
  refine ⟨fun _ => rfl, fun i hi => ?_, fun i hi => ?_, hs⟩
  · have e := cell_of_row _ _ i _ 5 _ (heap_alloc_new w.drew (.cells (bytesRow s (grownCap w s.size 0 5)) 5 ((bytesRow s (grownCap w s.size 0 5)).size, (bytesRow s (grownCap w s.size 0 5)).size + 1)))
    rw [Nat.zero_add]
    refine Eq.trans e ?_
    rw [bytesRow_at s _ i hi]
    have hi' : i < s.data.size := hi
    unfold byt
    rw [Array.getD_eq_getD_getElem?, Array.getElem?_eq_getElem hi']
    rfl
  · have := byt_lt s i
    omega

/-- one list of bytes, in a new list -/
theorem parts_one {w : World} {A : Option Addr} {b off m c : Nat} {Y : Nat → Nat} (hv : View w A b off m (fun i => (Y i : Int))) (hc : m ≤ c) (hY : ∀ i, Y i < 256) (t : TypeId) :
    Parts (w.alloc (.cells #[.slice A m c] t)) (some ⟨w.heap.size, 0, none⟩) w.heap.size 0 1 (fun _ => A) (fun _ => b) (fun _ => off) (fun _ => m) (fun _ => c) (fun _ => Y) := by
  refine ⟨fun _ => rfl, fun i hi => ?_, fun i hi => hv.below ((Below.refl _ _).alloc (Nat.le_refl _) _), fun i hi => hc, fun _ => hY⟩
  have : i = 0 := by omega
  subst this
  rw [cell_of_row _ _ _ _ t _ (heap_alloc_new w _)]
  rfl
theorem tot_one (m : Nat) : tot (fun _ => m) 1 = m := by simp [tot]
theorem digest_one (m : Nat) (Y : Nat → Nat) : digest (tot (fun _ => m) 1) (jn (fun _ => m) (fun _ => Y) 1) = digest m Y := by
  rw [tot_one]
  refine digest_congr (fun i _ => ?_)
  simp [jn, cat, tot]

/-- a list of bytes at a stroke -/
theorem sum_one (w : World) (A : Option Addr) (b off m c t cap : Nat) (Y : Nat → Nat) (hv : View w A b off m (fun i => (Y i : Int))) (hc : m ≤ c) (hY : ∀ i, Y i < 256) (hF : First w) (hK : Roots w) (hw : 2 < w.heap.size) :
    Calls Tryd.prog 24 #[.slice (some ⟨w.heap.size, 0, none⟩) 1 cap] (w.alloc (.cells #[.slice A m c] t)) fun e w' => e = .returned (.agg (hashA (digest m Y))) ∧ Below (w.alloc (.cells #[.slice A m c] t)).heap.size (w.alloc (.cells #[.slice A m c] t)) w' := by
  have b0 : Below w.heap.size w (w.alloc (.cells #[.slice A m c] t)) := (Below.refl _ _).alloc (Nat.le_refl _) _
  have h := sums_any _ _ _ _ 1 cap _ _ _ _ _ _ (parts_one hv hc hY t) (hK.below b0 hw) (hF.below b0 (by omega)) (by simp; omega) (by omega) (by rw [tot_one]; have := hv.len; omega)
  rw [digest_one] at h
  exact h

theorem ch {a b c : World} (h1 : Below a.heap.size a b) (h2 : Below b.heap.size b c) : Below a.heap.size a c := h1.trans (h2.mono h1.size)
theorem hashA_one (s : W8) : (hashA s).all (·.oneCell') = true := all_one (fun i hi => ⟨_, _, hashA_cell _ i (by rw [hashA_size] at hi; exact hi)⟩)
theorem hashA_info (s : W8) : (Tryd.prog.info? 31).map (·.size) = some (hashA s).size := by rw [hashA_size]; exact info26
theorem Z32_hash (s : W8) : Z32.size = (hashA s).size := by rw [hashA_size]; rfl
/-- a hash in a block of its own -/
def HashAt (w : World) (g : Nat) (s : W8) : Prop := w.heap[g]? = some (.cells (hashA s) 31 (0, 0))
theorem HashAt.below {w w' : World} {g : Nat} {s : W8} (h : HashAt w g s) (hb : Below w.heap.size w w') : HashAt w' g s := by
  have hg : g < w.heap.size := by
    by_cases e : g < w.heap.size
    · exact e
    · have hn : w.heap[g]? = none := by simp; omega
      unfold HashAt at h
      rw [hn] at h
      cases h
  exact (hb.block g hg).trans h
theorem HashAt.cells {w : World} {g : Nat} {s : W8} (h : HashAt w g s) : ∀ j, j < (hashA s).size → w.cell? ⟨g, j, none⟩ = (hashA s)[j]? := fun j _ => cell_of_row w g j _ 31 _ h
theorem hash_laid (w : World) (s : W8) : HashAt ((w.alloc (.cells Z32 31)).setRow w.heap.size (hashA s)) w.heap.size s ∧ Below w.heap.size w ((w.alloc (.cells Z32 31)).setRow w.heap.size (hashA s)) :=
  ⟨setRow_heap _ _ _ _ _ _ (heap_alloc_new _ _), below_setRow ((Below.refl _ _).alloc (Nat.le_refl _) _) (Nat.le_refl _) _⟩

theorem quiet_load {P : Program} {ops : Array Oper} {C : World → Prop} {Q : Act → Prop} {a : Act} {o : Oper} {rest : List Oper} (hw : Region.wanted o (yielded ops a.tmps) = true) (ty : TypeId) (x : Operand) (ho : o.op = .load ty x)
    (g : Nat) (hx : a.eval x = .pointer (some ⟨g, 0, none⟩)) (cs : Array Value) (d : TypeDesc) (hc : ∀ w, C w → ∀ j, j < cs.size → w.cell? ⟨g, j, none⟩ = cs[j]?)
    (hu : P.underlying ty = some d) (hd : (match d with | .struct _ | .array _ _ => true | _ => false) = true) (hi : (P.info? ty).map (·.size) = some cs.size)
    (h : wpQuiet P ops C Q rest (a.put o.dst (.agg cs))) : wpQuiet P ops C Q (o :: rest) a := by
  refine wpQuiet_step fun K hK => ?_
  rw [if_pos hw]
  refine ⟨.agg cs, fun w hC => ?_, hK _ h⟩
  unfold Oper.quietAt execOp
  simp only [ho, hx, Instr.loadAt, Instr.sureAddr, Sem.run_bind, Sem.run_pure, Result.andThen_ok, run_loadVar_cells w g ty cs d (hc w hC) hu hd hi]
  exact ⟨rfl, rfl⟩

end Go.Proofs.YtadcbhjmbgenbaaDoor
