import Derived.Test.YtadcbhjmbgenbaaDoorBkq
import Derived.Test.YtadcbhjmbgenbaaDoorMacFq
import Derived.Test.YtadcbhjmbgenbaaDoorSlq
/-
  codeOf: the code of a string with a book's secret.
-/
namespace Go.Proofs.YtadcbhjmbgenbaaDoor
open Go.RowKit Go.Sort Go.Maps

theorem Ground.turn {w w' : World} {F : Nat → Prop} (h : Ground w) (t : Turn F w w') (hF : ∀ i, F i → 2 < i) : Ground w' :=
  ⟨fun i hi => (t.cell (q := ⟨1, i, none⟩) (by have := h.big; show (1 : Nat) < _; omega) (fun f => by have := hF _ f; simp at this)).trans (h.first i hi),
    fun i hi => (t.cell (q := ⟨2, i, none⟩) h.big (fun f => by have := hF _ f; simp at this)).trans (h.roots i hi), Nat.lt_of_lt_of_le h.big t.size⟩
theorem jn_one (m : Nat) (Y : Nat → Nat) : jn (fun _ => m) (fun _ => Y) 1 = Y := by
  funext i
  simp [jn, cat, tot]
theorem hmac_gd (S : Nat → Nat) (t : List Nat) : hashA (hmac (blk 32 S) t.length (gd t)) = hA (cod S t) := hashA_hA _

end Go.Proofs.YtadcbhjmbgenbaaDoor

/-
  A book: met, Len, Sound; what a nil one answers.
-/
namespace Go.Proofs.YtadcbhjmbgenbaaDoor
open Go.RowKit Go.Sort Go.Maps Go.MuLone

instance (κ : List Nat → List Nat) (L : List (List Nat)) : Decidable (Lone κ L) := inferInstanceAs (Decidable (List.Pairwise _ L))

theorem quiet_len {P : Program} {ops : Array Oper} {C : World → Prop} {Q : Act → Prop} {a : Act} {o : Oper} {rest : List Oper} (hw : Region.wanted o (yielded ops a.tmps) = true) (x : Operand) (t : TypeId) (ho : o.op = .call { callee := .builtin .len, args := #[x], argTypes := #[t] })
    (vx v : Value) (hx : a.eval x = vx) (hr : ∀ w, C w → (Builtin.len_ #[t] o.type #[vx]).run P w = .ok v w) (h : wpQuiet P ops C Q rest (a.put o.dst v)) : wpQuiet P ops C Q (o :: rest) a := by
  refine wpQuiet_step fun K hK => ?_
  rw [if_pos hw]
  refine ⟨v, fun w hC => ?_, hK _ h⟩
  unfold Oper.quietAt execOp
  simp only [ho, resolve, invoke, builtin, List.map_toArray, List.map_cons, List.map_nil, hx, Sem.run_bind, hr w hC, Sem.run_pure, Result.andThen_ok]
  exact ⟨rfl, rfl⟩

theorem builtZ : Tryd.prog.built 31 [] = some Z32 := by kernel_rfl
theorem zh : IsH (lst 32 (fun _ => 0)) := isH_lst (fun _ => by decide)
theorem nil_store (w : World) : (w.alloc (.cells Z32 31)).heap[w.heap.size]? = some (.cells Z32 31 (0, 0)) := heap_alloc_new _ _
set_option maxRecDepth 100000 in
theorem nilHash (w : World) (v : Value) : Calls Tryd.prog 15 #[.pointer none, v] w fun e w' => e = .returned (.agg Z32) ∧ Below w.heap.size w w' := by
  have z64 := (zero_of_info infoH).1
  have b1 : Below w.heap.size w ((w.alloc (.cells Z32 31)).setRow w.heap.size Z32) := below_setRow ((Below.refl _ _).alloc (Nat.le_refl _) _) (Nat.le_refl _) _
  have hi : (Tryd.prog.info? 31).map (·.size) = some Z32.size := info26
  go_enter_defers Tryd.func15, Tryd.ntmps15
  go_wp2_with (first
    | refine wpList_build_to (by rfl) 31 #[] (by rfl) Z32 builtZ ?_
    | refine wpList_store_row (by rfl) 31 (.tmp 4) (.tmp 8) (by rfl) w.heap.size Z32 (by rfl) (by rfl) 31 Z32 (nil_store w) hi (by rfl) Z32_one ?_)
  exact ⟨_, results_cell_row rfl _ _ w.heap.size 31 Z32 (0, 0) _ rfl (setRow_heap _ _ _ _ _ _ (nil_store w)) Tryd.underlying31 rfl hi, rfl, b1⟩
end Go.Proofs.YtadcbhjmbgenbaaDoor

/-
  A book: Len, Sound.
-/
namespace Go.Proofs.YtadcbhjmbgenbaaDoor
open Go.RowKit Go.Sort Go.Maps Go.MuLone

/-- THE LOCK IS GIVEN BACK: what has become of the book. -/
theorem book_close {w w8 : World} {B sb : Nat} {st : Bst} {bh bc bf : Nat} {Fh Fc Ff F : Nat → Prop} (h : BookX w8 B sb st 1 bh bc bf Fh Fc Ff) (t : Turn F w w8) (hs : F sb) (h1 : ∀ i, F i → i = sb ∨ Fh i ∨ Fc i ∨ Ff i) (h2 : ∀ i, (Fh i ∨ Fc i ∨ Ff i) → F i ∨ w.heap.size ≤ i) :
    Turned w (w8.setCell ⟨sb, 34, none⟩ (.int .i32 0)) B sb st F := by
  refine ⟨⟨fun i => i = sb ∨ Fh i ∨ Fc i ∨ Ff i, h1, fun i q => ?_, ⟨bh, bc, bf, Fh, Fc, Ff, h.lock 0, fun i => Iff.rfl⟩⟩, t.trans (Turn.setCell w8 ⟨sb, 34, none⟩ _ (F := F) hs) (fun i q => Or.inl q)⟩
  rcases q with q | q
  · exact Or.inl (q ▸ hs)
  · exact h2 i q

theorem bb_true {a b c : Prop} [Decidable a] [Decidable b] [Decidable c] (ha : a) (hb : b) : (decide a && decide b && decide c) = decide c := by rw [decide_eq_true ha, decide_eq_true hb]; rfl

end Go.Proofs.YtadcbhjmbgenbaaDoor

/-
  Rows made and copied (without the law's own block of stage 3).
-/
namespace Go.Proofs.YtadcbhjmbgenbaaDoor
open Go.RowKit

theorem mk_own {w wr : World} {n : Nat} {f : Nat → Nat} (h : Mk w wr w.heap.size n f) (hn : n ≤ maxLen := by decide) : wr.ownsRow w.heap.size 5 1 (.slice (some ⟨w.heap.size, 0, none⟩) n n) n (vals (fun i => (f i : Int)) n) := by
  obtain ⟨cs, hg, hsz, hcs⟩ := h.row
  refine ⟨by simp [vals], .inr ⟨w.heap.size, n, cs, rfl, Nat.le_refl _, hg, Nat.le_refl _, hn, by omega, ?_⟩⟩
  rw [Nat.mul_one, List.take_of_length_le (by simp; omega)]
  apply List.ext_getElem?
  intro i
  rw [Array.getElem?_toList]
  unfold vals
  by_cases hi : i < n
  · rw [hcs i hi, List.getElem?_map, List.getElem?_range hi]
    rfl
  · rw [Array.getElem?_eq_none (by omega), List.getElem?_eq_none (by simp; omega)]
theorem mk_copied {w w1 wn : World} {cnt : Nat} {Z : Nat → Int} {f : Nat → Nat} (h : Mk w w1 w.heap.size 64 (fun _ => 0)) (hs : Save w.heap.size w1 wn) (hr : wn.rowIs w.heap.size 5 64 (fun i => if 0 ≤ i ∧ i < 0 + cnt then .int .u8 (Z (i - 0)) else .int .u8 ((0 : Nat) : Int)))
    (hf : ∀ i, i < 64 → (if 0 ≤ i ∧ i < 0 + cnt then Value.int .u8 (Z (i - 0)) else .int .u8 ((0 : Nat) : Int)) = .int .u8 (f i)) : Mk w wn w.heap.size 64 f :=
  ⟨h.below.trans (hs.below (Nat.le_refl _) h.below.size), Nat.le_refl _, hr.congr hf⟩
end Go.Proofs.YtadcbhjmbgenbaaDoor
