import Derived.Test.YtpmdjopojcgpeaaGreatDoorChecked
import Derived.Conc.MuLone
import Derived.KernelRfl
import Derived.Test.YtpmdjopojcgpeaaGreatDoorQMacEq
import Derived.Test.YtpmdjopojcgpeaaGreatDoorQAddq
/-
  The numbers under which this cut holds sync.Mutex, and that it holds it.
-/
namespace Go.Proofs.YtpmdjopojcgpeaaGreatDoor.Dg
abbrev mu : Go.Conc.Locks.MuLink := { lock := 54, unlock := 55, ilock := 96, iunlock := 97, lockSlow := 138, unlockSlow := 141, disable := 134, enable := 136, acquire := 137, relMerge := 139, cas32 := 135, add32 := 140, tMutex := 94, tIMutex := 92, tPMutex := 167, tPIMutex := 208, tPI32 := 210, tUP := 212, tNoCopy := 89, tU32 := 90 }
theorem muLib : Go.Conc.Locks.MuLib Tryz.prog mu :=
  ⟨Tryz.func54, Tryz.func55, Tryz.func96, Tryz.func97, Tryz.func134, Tryz.func136, Tryz.func137, Tryz.func139, Tryz.func135, Tryz.func140, Tryz.underlying92, Tryz.runUnderlying92, Tryz.sizeOf92, Tryz.isAgg92, Tryz.zeroValue92, Tryz.underlying94, Tryz.runUnderlying94, Tryz.sizeOf94, Tryz.isAgg94, Tryz.zeroValue94, Tryz.underlying167, Tryz.runUnderlying167, Tryz.sizeOf167, Tryz.isAgg167, Tryz.zeroValue167, Tryz.underlying208, Tryz.runUnderlying208, Tryz.sizeOf208, Tryz.isAgg208, Tryz.zeroValue208, Tryz.underlying210, Tryz.runUnderlying210, Tryz.sizeOf210, Tryz.isAgg210, Tryz.zeroValue210, Tryz.underlying212, Tryz.runUnderlying212, Tryz.sizeOf212, Tryz.isAgg212, Tryz.zeroValue212, Tryz.underlying89, Tryz.runUnderlying89, Tryz.sizeOf89, Tryz.isAgg89, Tryz.zeroValue89, Tryz.underlying21, Tryz.runUnderlying21, Tryz.sizeOf21, Tryz.isAgg21, Tryz.zeroValue21, (by kernel_rfl)⟩
end Go.Proofs.YtpmdjopojcgpeaaGreatDoor.Dg

/-
  mac: Code, of a code on its way and of parts.
-/
namespace Go.Proofs.YtpmdjopojcgpeaaGreatDoor.Dg
open Go.RowKit

/-- two lists of bytes, in a new list -/
theorem parts_two {w : World} {A0 A1 : Option Addr} {b0 o0 m0 c0 b1 o1 m1 c1 : Nat} {Y0 Y1 : Nat → Nat} (h0 : View w A0 b0 o0 m0 (fun i => (Y0 i : Int))) (h1 : View w A1 b1 o1 m1 (fun i => (Y1 i : Int))) (k0 : m0 ≤ c0) (k1 : m1 ≤ c1) (hY0 : ∀ i, Y0 i < 256) (hY1 : ∀ i, Y1 i < 256) (t : TypeId) :
    Parts (w.alloc (.cells #[.slice A0 m0 c0, .slice A1 m1 c1] t)) (some ⟨w.heap.size, 0, none⟩) w.heap.size 0 2 (fun i => if i = 0 then A0 else A1) (fun i => if i = 0 then b0 else b1) (fun i => if i = 0 then o0 else o1) (fun i => if i = 0 then m0 else m1) (fun i => if i = 0 then c0 else c1) (fun i => if i = 0 then Y0 else Y1) := by
  have hb : Below w.heap.size w (w.alloc (.cells #[.slice A0 m0 c0, .slice A1 m1 c1] t)) := (Below.refl _ _).alloc (Nat.le_refl _) _
  refine ⟨fun _ => rfl, fun i hi => ?_, fun i hi => ?_, fun i hi => ?_, fun i j => ?_⟩
  · rw [cell_of_row _ _ _ _ t _ (heap_alloc_new w _)]
    match i, hi with
    | 0, _ => rfl
    | 1, _ => rfl
  · match i, hi with
    | 0, _ => exact h0.below hb
    | 1, _ => exact h1.below hb
  · match i, hi with
    | 0, _ => exact k0
    | 1, _ => exact k1
  · by_cases e : i = 0
    · simp only [if_pos e]
      exact hY0 j
    · simp only [if_neg e]
      exact hY1 j
theorem digest_two (m0 m1 : Nat) (Y0 Y1 : Nat → Nat) : digest (tot (fun i => if i = 0 then m0 else m1) 2) (jn (fun i => if i = 0 then m0 else m1) (fun i => if i = 0 then Y0 else Y1) 2) = digest (m0 + m1) (cat m0 Y0 Y1) := by
  have e : tot (fun i => if i = 0 then m0 else m1) 2 = m0 + m1 := by simp [tot]
  rw [e]
  refine digest_congr (fun i _ => ?_)
  simp [jn, cat, tot]
theorem sum_two (w : World) (A0 A1 : Option Addr) (b0 o0 m0 c0 b1 o1 m1 c1 t cap : Nat) (Y0 Y1 : Nat → Nat) (h0 : View w A0 b0 o0 m0 (fun i => (Y0 i : Int))) (h1 : View w A1 b1 o1 m1 (fun i => (Y1 i : Int))) (k0 : m0 ≤ c0) (k1 : m1 ≤ c1) (hY0 : ∀ i, Y0 i < 256) (hY1 : ∀ i, Y1 i < 256) (hG : Ground w) :
    Calls Tryz.prog 57 #[.slice (some ⟨w.heap.size, 0, none⟩) 2 cap] (w.alloc (.cells #[.slice A0 m0 c0, .slice A1 m1 c1] t)) fun e w' => e = .returned (.agg (hashA (digest (m0 + m1) (cat m0 Y0 Y1)))) ∧ Below (w.alloc (.cells #[.slice A0 m0 c0, .slice A1 m1 c1] t)).heap.size (w.alloc (.cells #[.slice A0 m0 c0, .slice A1 m1 c1] t)) w' := by
  have G := hG.below ((Below.refl _ _).alloc (Nat.le_refl _) (.cells #[.slice A0 m0 c0, .slice A1 m1 c1] t))
  have h := sums_any _ _ _ _ 2 cap _ _ _ _ _ _ (parts_two h0 h1 k0 k1 hY0 hY1 t) G.roots G.first G.big (by omega) (by have := h0.len; have := h1.len; simp [tot]; omega)
  rw [digest_two] at h
  exact h

end Go.Proofs.YtpmdjopojcgpeaaGreatDoor.Dg

/-
  A book in memory.
-/
namespace Go.Proofs.YtpmdjopojcgpeaaGreatDoor.Dg
open Go.RowKit Go.Sort Go.Maps

/-- the hash and the code of a string -/
def sum (s : List Nat) : List Nat := lst 32 (hb (digest s.length (gd s)))
def kh (bits : Nat) (s : List Nat) : List Nat := lst 32 (cutf bits (gd (sum s)))
def cod (S : Nat → Nat) (s : List Nat) : List Nat := lst 32 (hb (hmac (blk 32 S) s.length (gd s)))
def kc (bits : Nat) (S : Nat → Nat) (s : List Nat) : List Nat := lst 32 (cutf bits (gd (cod S s)))
theorem sum_isH (s : List Nat) : IsH (sum s) := isH_lst (fun _ => Nat.mod_lt _ (by decide))
theorem cod_isH (S : Nat → Nat) (s : List Nat) : IsH (cod S s) := isH_lst (fun _ => Nat.mod_lt _ (by decide))
theorem kh_isH (bits : Nat) (s : List Nat) : IsH (kh bits s) := isH_lst (cutf_lt (gd_lt (sum_isH s).2))
theorem kc_isH (bits : Nat) (S : Nat → Nat) (s : List Nat) : IsH (kc bits S s) := isH_lst (cutf_lt (gd_lt (cod_isH S s).2))

/-- a book's cells -/
def bkc (bits cbits : Nat) (S : Nat → Nat) (bh nh bc nc bf nf : Nat) (lock : Int) (i : Nat) : Value :=
  if i = 0 then .int .i64 bits else if i = 1 then .int .i64 cbits else if i < 34 then .int .u8 (S (i - 2)) else if i = 34 then .int .i32 lock else if i = 35 then .int .u32 0
  else if i = 36 then .map (some bh) else if i = 37 then .int .i64 nh else if i = 38 then .map (some bc) else if i = 39 then .int .i64 nc else if i = 40 then .map (some bf) else if i = 41 then .int .i64 nf else .int .i64 0

/-- what a book is: its bits, its secret, what is noted -/
structure Bst where
  bits : Nat
  cbits : Nat
  S : Nat → Nat
  LH : List (List Nat)
  LC : List (List Nat)
  LF : List (List Nat)

structure BookX (w : World) (B sb : Nat) (st : Bst) (lock : Int) (bh bc bf : Nat) (Fh Fc Ff : Nat → Prop) : Prop where
  row : w.rowIs sb 96 42 (bkc st.bits st.cbits st.S bh st.LH.length bc st.LC.length bf st.LF.length lock)
  nh : Notes w bh Fh (kh st.bits) st.LH
  nc : Notes w bc Fc (kc st.cbits st.S) st.LC
  nf : Notes w bf Ff (kc st.cbits st.S) st.LF
  hc : ∀ i, Fh i → ¬ Fc i
  hf : ∀ i, Fh i → ¬ Ff i
  cf : ∀ i, Fc i → ¬ Ff i
  oh : ¬ Fh sb
  oc : ¬ Fc sb
  of_ : ¬ Ff sb
  lim : ∀ i, (Fh i ∨ Fc i ∨ Ff i) → i < w.heap.size
  base : B ≤ sb ∧ ∀ i, (Fh i ∨ Fc i ∨ Ff i) → B ≤ i
  b1 : 8 ≤ st.bits ∧ st.bits ≤ 256
  b2 : 8 ≤ st.cbits ∧ st.cbits ≤ 256
  S8 : ∀ i, st.S i < 256

/-- A BOOK: all that it reads lies in F's blocks, all at B or beyond. -/
def Book (w : World) (B sb : Nat) (st : Bst) (F : Nat → Prop) : Prop := ∃ bh bc bf Fh Fc Ff, BookX w B sb st 0 bh bc bf Fh Fc Ff ∧ ∀ i, F i ↔ i = sb ∨ Fh i ∨ Fc i ∨ Ff i

theorem BookX.lt {w : World} {B sb : Nat} {st : Bst} {lock : Int} {bh bc bf : Nat} {Fh Fc Ff : Nat → Prop} (h : BookX w B sb st lock bh bc bf Fh Fc Ff) : sb < w.heap.size := h.row.lt
theorem BookX.turn {w w' : World} {B sb : Nat} {st : Bst} {lock : Int} {bh bc bf : Nat} {Fh Fc Ff G : Nat → Prop} (h : BookX w B sb st lock bh bc bf Fh Fc Ff) (t : Turn G w w') (hs : ¬ G sb) (hd : ∀ i, (Fh i ∨ Fc i ∨ Ff i) → ¬ G i) : BookX w' B sb st lock bh bc bf Fh Fc Ff :=
  { h with
    row := h.row.of_block (t.block sb h.lt hs)
    nh := h.nh.turn t (fun i q _ => hd i (Or.inl q))
    nc := h.nc.turn t (fun i q _ => hd i (Or.inr (Or.inl q)))
    nf := h.nf.turn t (fun i q _ => hd i (Or.inr (Or.inr q)))
    lim := fun i q => Nat.lt_of_lt_of_le (h.lim i q) t.size }
theorem BookX.below {w w' : World} {B sb : Nat} {st : Bst} {lock : Int} {bh bc bf : Nat} {Fh Fc Ff : Nat → Prop} (h : BookX w B sb st lock bh bc bf Fh Fc Ff) (hb : Below w.heap.size w w') : BookX w' B sb st lock bh bc bf Fh Fc Ff :=
  h.turn (Turn.of_below hb (F := fun _ => False)) (fun q => q) (fun _ _ q => q)
theorem Book.turn {w w' : World} {B sb : Nat} {st : Bst} {F G : Nat → Prop} (h : Book w B sb st F) (t : Turn G w w') (hd : ∀ i, F i → ¬ G i) : Book w' B sb st F := by
  obtain ⟨bh, bc, bf, Fh, Fc, Ff, hx, hF⟩ := h
  exact ⟨bh, bc, bf, Fh, Fc, Ff, hx.turn t (hd sb ((hF sb).2 (Or.inl rfl))) (fun i q => hd i ((hF i).2 (Or.inr q))), hF⟩
theorem Book.below {w w' : World} {B sb : Nat} {st : Bst} {F : Nat → Prop} (h : Book w B sb st F) (hb : Below w.heap.size w w') : Book w' B sb st F :=
  h.turn (Turn.of_below hb (F := fun _ => False)) (fun _ _ q => q)
theorem Book.lim {w : World} {B sb : Nat} {st : Bst} {F : Nat → Prop} (h : Book w B sb st F) : ∀ i, F i → B ≤ i ∧ i < w.heap.size := by
  obtain ⟨bh, bc, bf, Fh, Fc, Ff, hx, hF⟩ := h
  intro i q
  rcases (hF i).1 q with e | q
  · exact ⟨e ▸ hx.base.1, e ▸ hx.lt⟩
  · exact ⟨hx.base.2 i q, hx.lim i q⟩
/-- the lock is taken, or given back -/
theorem BookX.lock {w : World} {B sb : Nat} {st : Bst} {l : Int} {bh bc bf : Nat} {Fh Fc Ff : Nat → Prop} (h : BookX w B sb st l bh bc bf Fh Fc Ff) (l' : Int) : BookX (w.setCell ⟨sb, 34, none⟩ (.int .i32 l')) B sb st l' bh bc bf Fh Fc Ff := by
  have t : Turn (fun i => i = sb) w (w.setCell ⟨sb, 34, none⟩ (.int .i32 l')) := Turn.setCell w _ _ rfl
  refine { h with row := (h.row.set 34 _).congr (fun i _ => ?_), nh := h.nh.turn t (fun i q _ e => h.oh (e ▸ q)), nc := h.nc.turn t (fun i q _ e => h.oc (e ▸ q)), nf := h.nf.turn t (fun i q _ e => h.of_ (e ▸ q)), lim := fun i q => Nat.lt_of_lt_of_le (h.lim i q) t.size }
  unfold bkc
  by_cases e : i = 34
  · subst e
    simp
  · rw [if_neg e]
    by_cases e0 : i = 0
    · rw [if_pos e0, if_pos e0]
    · rw [if_neg e0, if_neg e0]
      by_cases e1 : i = 1
      · rw [if_pos e1, if_pos e1]
      · rw [if_neg e1, if_neg e1]
        by_cases e2 : i < 34
        · rw [if_pos e2, if_pos e2]
        · rw [if_neg e2, if_neg e2, if_neg e, if_neg e]
theorem BookX.state {w : World} {B sb : Nat} {st : Bst} {l : Int} {bh bc bf : Nat} {Fh Fc Ff : Nat → Prop} (h : BookX w B sb st l bh bc bf Fh Fc Ff) : w.cell? ⟨sb, 34, none⟩ = some (.int .i32 l) := h.row.cell (i := 34) (by decide)
theorem BookX.frozen {w : World} {B sb : Nat} {st : Bst} {l : Int} {bh bc bf : Nat} {Fh Fc Ff : Nat → Prop} (h : BookX w B sb st l bh bc bf Fh Fc Ff) (i : Nat) : w.frozen? ⟨sb, i, none⟩ = false := h.row.frozen i
theorem BookX.cBits {w : World} {B sb : Nat} {st : Bst} {l : Int} {bh bc bf : Nat} {Fh Fc Ff : Nat → Prop} (h : BookX w B sb st l bh bc bf Fh Fc Ff) : w.cell? ⟨sb, 0, none⟩ = some (.int .i64 st.bits) := h.row.cell (i := 0) (by decide)
theorem BookX.cCBits {w : World} {B sb : Nat} {st : Bst} {l : Int} {bh bc bf : Nat} {Fh Fc Ff : Nat → Prop} (h : BookX w B sb st l bh bc bf Fh Fc Ff) : w.cell? ⟨sb, 1, none⟩ = some (.int .i64 st.cbits) := h.row.cell (i := 1) (by decide)
theorem BookX.secret {w : World} {B sb : Nat} {st : Bst} {l : Int} {bh bc bf : Nat} {Fh Fc Ff : Nat → Prop} (h : BookX w B sb st l bh bc bf Fh Fc Ff) : View w (some ⟨sb, 2, none⟩) sb 2 32 (fun i => (st.S i : Int)) := by
  refine ⟨fun _ => rfl, fun i hi => ?_, fun i _ => by have := h.S8 i; omega, by decide⟩
  have := h.row.cell (i := 2 + i) (by omega)
  rw [this]
  unfold bkc
  rw [if_neg (by omega), if_neg (by omega), if_pos (by omega), show 2 + i - 2 = i by omega]
theorem BookX.natH {w : World} {B sb : Nat} {st : Bst} {l : Int} {bh bc bf : Nat} {Fh Fc Ff : Nat → Prop} (h : BookX w B sb st l bh bc bf Fh Fc Ff) : NAt w sb 36 bh Fh (kh st.bits) st.LH :=
  ⟨h.row.cell (i := 36) (by decide), h.row.cell (i := 37) (by decide), h.row.frozen _, h.nh, h.oh, fun i q => h.lim i (Or.inl q)⟩
theorem BookX.natC {w : World} {B sb : Nat} {st : Bst} {l : Int} {bh bc bf : Nat} {Fh Fc Ff : Nat → Prop} (h : BookX w B sb st l bh bc bf Fh Fc Ff) : NAt w sb 38 bc Fc (kc st.cbits st.S) st.LC :=
  ⟨h.row.cell (i := 38) (by decide), h.row.cell (i := 39) (by decide), h.row.frozen _, h.nc, h.oc, fun i q => h.lim i (Or.inr (Or.inl q))⟩
theorem BookX.natF {w : World} {B sb : Nat} {st : Bst} {l : Int} {bh bc bf : Nat} {Fh Fc Ff : Nat → Prop} (h : BookX w B sb st l bh bc bf Fh Fc Ff) : NAt w sb 40 bf Ff (kc st.cbits st.S) st.LF :=
  ⟨h.row.cell (i := 40) (by decide), h.row.cell (i := 41) (by decide), h.row.frozen _, h.nf, h.of_, fun i q => h.lim i (Or.inr (Or.inr q))⟩

/-- WHAT A CALL THAT NOTES LEAVES OF A BOOK: it turns its own blocks alone, what is new may be its. -/
structure Turned (w w' : World) (B sb : Nat) (st : Bst) (F : Nat → Prop) : Prop where
  book : ∃ F', (∀ i, F i → F' i) ∧ (∀ i, F' i → F i ∨ w.heap.size ≤ i) ∧ Book w' B sb st F'
  turn : Turn F w w'
theorem bkc_h (bits cbits : Nat) (S : Nat → Nat) (bh nh bc nc bf nf nh' : Nat) (l : Int) (i : Nat) : (if i = 36 + 1 then Value.int .i64 nh' else bkc bits cbits S bh nh bc nc bf nf l i) = bkc bits cbits S bh nh' bc nc bf nf l i := by
  unfold bkc
  by_cases e : i = 37
  · subst e
    simp
  · rw [if_neg (show ¬ i = 36 + 1 from e)]
    simp only [if_neg e]
theorem bkc_c (bits cbits : Nat) (S : Nat → Nat) (bh nh bc nc bf nf nc' : Nat) (l : Int) (i : Nat) : (if i = 38 + 1 then Value.int .i64 nc' else bkc bits cbits S bh nh bc nc bf nf l i) = bkc bits cbits S bh nh bc nc' bf nf l i := by
  unfold bkc
  by_cases e : i = 39
  · subst e
    simp
  · rw [if_neg (show ¬ i = 38 + 1 from e)]
    simp only [if_neg e]
theorem bkc_f (bits cbits : Nat) (S : Nat → Nat) (bh nh bc nc bf nf nf' : Nat) (l : Int) (i : Nat) : (if i = 40 + 1 then Value.int .i64 nf' else bkc bits cbits S bh nh bc nc bf nf l i) = bkc bits cbits S bh nh bc nc bf nf' l i := by
  unfold bkc
  by_cases e : i = 41
  · subst e
    simp
  · rw [if_neg (show ¬ i = 40 + 1 from e)]
    simp only [if_neg e]

/-- BEHIND add, the lock held: the notes that have turned, the others as they were. -/
theorem BookX.addedH {w w' : World} {B sb : Nat} {st : Bst} {l : Int} {bh bc bf : Nat} {Fh Fc Ff : Nat → Prop} (h : BookX w B sb st l bh bc bf Fh Fc Ff) {L : List (List Nat)} (a : Added w w' sb 36 bh Fh (kh st.bits) L) :
    ∃ F', (∀ i, Fh i → F' i) ∧ (∀ i, F' i → Fh i ∨ w.heap.size ≤ i) ∧ BookX w' B sb { st with LH := L } l bh bc bf F' Fc Ff := by
  obtain ⟨F', h1, h2, hn⟩ := a.notes
  have hb := h.base
  have hl := h.lt
  refine ⟨F', h1, fun i q => (h2 i q).imp id (fun z => z.1), { h with
    row := (a.self _ _ _ h.row).congr (fun i _ => bkc_h _ _ _ _ _ _ _ _ _ _ _ i)
    nh := hn
    nc := h.nc.turn a.turn (fun i q _ z => ?_)
    nf := h.nf.turn a.turn (fun i q _ z => ?_)
    hc := fun i q z => ?_
    hf := fun i q z => ?_
    oh := fun q => ?_
    lim := fun i q => ?_
    base := ⟨hb.1, fun i q => ?_⟩ }⟩
  · rcases z with z | z
    · exact h.hc i z q
    · exact h.oc (z ▸ q)
  · rcases z with z | z
    · exact h.hf i z q
    · exact h.of_ (z ▸ q)
  · rcases h2 i q with q | q
    · exact h.hc i q z
    · have := h.lim i (Or.inr (Or.inl z)); omega
  · rcases h2 i q with q | q
    · exact h.hf i q z
    · have := h.lim i (Or.inr (Or.inr z)); omega
  · rcases h2 sb q with q | q
    · exact h.oh q
    · omega
  · rcases q with q | q | q
    · rcases h2 i q with q | q
      · exact Nat.lt_of_lt_of_le (h.lim i (Or.inl q)) a.turn.size
      · exact q.2
    · exact Nat.lt_of_lt_of_le (h.lim i (Or.inr (Or.inl q))) a.turn.size
    · exact Nat.lt_of_lt_of_le (h.lim i (Or.inr (Or.inr q))) a.turn.size
  · rcases q with q | q | q
    · rcases h2 i q with q | q
      · exact hb.2 i (Or.inl q)
      · omega
    · exact hb.2 i (Or.inr (Or.inl q))
    · exact hb.2 i (Or.inr (Or.inr q))
theorem BookX.addedC {w w' : World} {B sb : Nat} {st : Bst} {l : Int} {bh bc bf : Nat} {Fh Fc Ff : Nat → Prop} (h : BookX w B sb st l bh bc bf Fh Fc Ff) {L : List (List Nat)} (a : Added w w' sb 38 bc Fc (kc st.cbits st.S) L) :
    ∃ F', (∀ i, Fc i → F' i) ∧ (∀ i, F' i → Fc i ∨ w.heap.size ≤ i) ∧ BookX w' B sb { st with LC := L } l bh bc bf Fh F' Ff := by
  obtain ⟨F', h1, h2, hn⟩ := a.notes
  have hb := h.base
  have hl := h.lt
  refine ⟨F', h1, fun i q => (h2 i q).imp id (fun z => z.1), { h with
    row := (a.self _ _ _ h.row).congr (fun i _ => bkc_c _ _ _ _ _ _ _ _ _ _ _ i)
    nc := hn
    nh := h.nh.turn a.turn (fun i q _ z => ?_)
    nf := h.nf.turn a.turn (fun i q _ z => ?_)
    hc := fun i q z => ?_
    cf := fun i q z => ?_
    oc := fun q => ?_
    lim := fun i q => ?_
    base := ⟨hb.1, fun i q => ?_⟩ }⟩
  · rcases z with z | z
    · exact h.hc i q z
    · exact h.oh (z ▸ q)
  · rcases z with z | z
    · exact h.cf i z q
    · exact h.of_ (z ▸ q)
  · rcases h2 i z with z | z
    · exact h.hc i q z
    · have := h.lim i (Or.inl q); omega
  · rcases h2 i q with q | q
    · exact h.cf i q z
    · have := h.lim i (Or.inr (Or.inr z)); omega
  · rcases h2 sb q with q | q
    · exact h.oc q
    · omega
  · rcases q with q | q | q
    · exact Nat.lt_of_lt_of_le (h.lim i (Or.inl q)) a.turn.size
    · rcases h2 i q with q | q
      · exact Nat.lt_of_lt_of_le (h.lim i (Or.inr (Or.inl q))) a.turn.size
      · exact q.2
    · exact Nat.lt_of_lt_of_le (h.lim i (Or.inr (Or.inr q))) a.turn.size
  · rcases q with q | q | q
    · exact hb.2 i (Or.inl q)
    · rcases h2 i q with q | q
      · exact hb.2 i (Or.inr (Or.inl q))
      · omega
    · exact hb.2 i (Or.inr (Or.inr q))
theorem BookX.addedF {w w' : World} {B sb : Nat} {st : Bst} {l : Int} {bh bc bf : Nat} {Fh Fc Ff : Nat → Prop} (h : BookX w B sb st l bh bc bf Fh Fc Ff) {L : List (List Nat)} (a : Added w w' sb 40 bf Ff (kc st.cbits st.S) L) :
    ∃ F', (∀ i, Ff i → F' i) ∧ (∀ i, F' i → Ff i ∨ w.heap.size ≤ i) ∧ BookX w' B sb { st with LF := L } l bh bc bf Fh Fc F' := by
  obtain ⟨F', h1, h2, hn⟩ := a.notes
  have hb := h.base
  have hl := h.lt
  refine ⟨F', h1, fun i q => (h2 i q).imp id (fun z => z.1), { h with
    row := (a.self _ _ _ h.row).congr (fun i _ => bkc_f _ _ _ _ _ _ _ _ _ _ _ i)
    nf := hn
    nh := h.nh.turn a.turn (fun i q _ z => ?_)
    nc := h.nc.turn a.turn (fun i q _ z => ?_)
    hf := fun i q z => ?_
    cf := fun i q z => ?_
    of_ := fun q => ?_
    lim := fun i q => ?_
    base := ⟨hb.1, fun i q => ?_⟩ }⟩
  · rcases z with z | z
    · exact h.hf i q z
    · exact h.oh (z ▸ q)
  · rcases z with z | z
    · exact h.cf i q z
    · exact h.oc (z ▸ q)
  · rcases h2 i z with z | z
    · exact h.hf i q z
    · have := h.lim i (Or.inl q); omega
  · rcases h2 i z with z | z
    · exact h.cf i q z
    · have := h.lim i (Or.inr (Or.inl q)); omega
  · rcases h2 sb q with q | q
    · exact h.of_ q
    · omega
  · rcases q with q | q | q
    · exact Nat.lt_of_lt_of_le (h.lim i (Or.inl q)) a.turn.size
    · exact Nat.lt_of_lt_of_le (h.lim i (Or.inr (Or.inl q))) a.turn.size
    · rcases h2 i q with q | q
      · exact Nat.lt_of_lt_of_le (h.lim i (Or.inr (Or.inr q))) a.turn.size
      · exact q.2
  · rcases q with q | q | q
    · exact hb.2 i (Or.inl q)
    · exact hb.2 i (Or.inr (Or.inl q))
    · rcases h2 i q with q | q
      · exact hb.2 i (Or.inr (Or.inr q))
      · omega
end Go.Proofs.YtpmdjopojcgpeaaGreatDoor.Dg

/-
  codeOf: the code of a string with a book's secret.
-/
namespace Go.Proofs.YtpmdjopojcgpeaaGreatDoor.Dg
open Go.RowKit Go.Sort Go.Maps

theorem Ground.turn {w w' : World} {F : Nat → Prop} (h : Ground w) (t : Turn F w w') (hF : ∀ i, F i → 3 < i) : Ground w' :=
  ⟨fun i hi => (t.cell (q := ⟨0, i, none⟩) (by have := h.big; show (0 : Nat) < _; omega) (fun f => by have := hF _ f; simp at this)).trans (h.first i hi),
    fun i hi => (t.cell (q := ⟨3, i, none⟩) h.big (fun f => by have := hF _ f; simp at this)).trans (h.roots i hi), Nat.lt_of_lt_of_le h.big t.size⟩
theorem jn_one (m : Nat) (Y : Nat → Nat) : jn (fun _ => m) (fun _ => Y) 1 = Y := by
  funext i
  simp [jn, cat, tot]
theorem hmac_gd (S : Nat → Nat) (t : List Nat) : hashA (hmac (blk 32 S) t.length (gd t)) = hA (cod S t) := hashA_hA _

end Go.Proofs.YtpmdjopojcgpeaaGreatDoor.Dg

/-
  A book: met, Len, Sound; what a nil one answers.
-/
namespace Go.Proofs.YtpmdjopojcgpeaaGreatDoor.Dg
open Go.RowKit Go.Sort Go.Maps Go.MuLone

instance (κ : List Nat → List Nat) (L : List (List Nat)) : Decidable (Lone κ L) := inferInstanceAs (Decidable (List.Pairwise _ L))

theorem quiet_len {P : Program} {ops : Array Oper} {C : World → Prop} {Q : Act → Prop} {a : Act} {o : Oper} {rest : List Oper} (hw : Region.wanted o (yielded ops a.tmps) = true) (x : Operand) (t : TypeId) (ho : o.op = .call { callee := .builtin .len, args := #[x], argTypes := #[t] })
    (vx v : Value) (hx : a.eval x = vx) (hr : ∀ w, C w → (Builtin.len_ #[t] o.type #[vx]).run P w = .ok v w) (h : wpQuiet P ops C Q rest (a.put o.dst v)) : wpQuiet P ops C Q (o :: rest) a := by
  refine wpQuiet_step fun K hK => ?_
  rw [if_pos hw]
  refine ⟨v, fun w hC => ?_, hK _ h⟩
  unfold Oper.quietAt execOp
  simp only [ho, resolve, invoke, builtin, List.map_toArray, List.map_cons, List.map_nil, hx, Sem.run_bind, hr w hC, Sem.run_pure, Result.andThen_ok]
  exact ⟨rfl, rfl⟩

theorem builtZ : Tryz.prog.built 38 [] = some Z32 := by kernel_rfl
theorem zh : IsH (lst 32 (fun _ => 0)) := isH_lst (fun _ => by decide)
theorem nil_store (w : World) : (w.alloc (.cells Z32 38)).heap[w.heap.size]? = some (.cells Z32 38 (0, 0)) := heap_alloc_new _ _
set_option maxRecDepth 100000 in
theorem nilHash (w : World) (v : Value) : Calls Tryz.prog 22 #[.pointer none, v] w fun e w' => e = .returned (.agg Z32) ∧ Below w.heap.size w w' := by
  have z64 := (zero_of_info infoH).1
  have b1 : Below w.heap.size w ((w.alloc (.cells Z32 38)).setRow w.heap.size Z32) := below_setRow ((Below.refl _ _).alloc (Nat.le_refl _) _) (Nat.le_refl _) _
  have hi : (Tryz.prog.info? 38).map (·.size) = some Z32.size := info26
  go_enter_defers Tryz.func22, Tryz.ntmps22
  go_wp2_with (first
    | refine wpList_build_to (by rfl) 38 #[] (by rfl) Z32 builtZ ?_
    | refine wpList_store_row (by rfl) 38 (.tmp 4) (.tmp 8) (by rfl) w.heap.size Z32 (by rfl) (by rfl) 38 Z32 (nil_store w) hi (by rfl) Z32_one ?_)
  exact ⟨_, results_cell_row rfl _ _ w.heap.size 38 Z32 (0, 0) _ rfl (setRow_heap _ _ _ _ _ _ (nil_store w)) Tryz.underlying38 rfl hi, rfl, b1⟩
end Go.Proofs.YtpmdjopojcgpeaaGreatDoor.Dg

/-
  A book: Len, Sound.
-/
namespace Go.Proofs.YtpmdjopojcgpeaaGreatDoor.Dg
open Go.RowKit Go.Sort Go.Maps Go.MuLone

/-- THE LOCK IS GIVEN BACK: what has become of the book. -/
theorem book_close {w w8 : World} {B sb : Nat} {st : Bst} {bh bc bf : Nat} {Fh Fc Ff F : Nat → Prop} (h : BookX w8 B sb st 1 bh bc bf Fh Fc Ff) (t : Turn F w w8) (hs : F sb) (h1 : ∀ i, F i → i = sb ∨ Fh i ∨ Fc i ∨ Ff i) (h2 : ∀ i, (Fh i ∨ Fc i ∨ Ff i) → F i ∨ w.heap.size ≤ i) :
    Turned w (w8.setCell ⟨sb, 34, none⟩ (.int .i32 0)) B sb st F := by
  refine ⟨⟨fun i => i = sb ∨ Fh i ∨ Fc i ∨ Ff i, h1, fun i q => ?_, ⟨bh, bc, bf, Fh, Fc, Ff, h.lock 0, fun i => Iff.rfl⟩⟩, t.trans (Turn.setCell w8 ⟨sb, 34, none⟩ _ (F := F) hs) (fun i q => Or.inl q)⟩
  rcases q with q | q
  · exact Or.inl (q ▸ hs)
  · exact h2 i q

theorem bb_true {a b c : Prop} [Decidable a] [Decidable b] [Decidable c] (ha : a) (hb : b) : (decide a && decide b && decide c) = decide c := by rw [decide_eq_true ha, decide_eq_true hb]; rfl

end Go.Proofs.YtpmdjopojcgpeaaGreatDoor.Dg
