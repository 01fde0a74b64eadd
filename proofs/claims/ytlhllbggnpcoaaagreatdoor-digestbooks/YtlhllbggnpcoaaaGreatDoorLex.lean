import Derived.Test.YtlhllbggnpcoaaaGreatDoorSm
import Derived.Laws.IdiomStrings
import Derived.Lib.QuietBelow
import Derived.Deep.RegionLaw
import Derived.Deep.RegionHeld3
import Derived.Test.YtlhllbggnpcoaaaGreatDoorCards
import Derived.Test.YtlhllbggnpcoaaaGreatDoorTie
import Derived.ProofKit
import Derived.OpenShut
import Derived.Deep.DeepHandedRow
import Derived.Lib.LaidTab
import Derived.Lib.LaidU8
import Derived.Test.YtlhllbggnpcoaaaGreatDoorSched
/-
  What all laws of mac lean on: the tables, a hash in a block of its own, the sum of one list.
-/
namespace Go.Proofs.YtlhllbggnpcoaaaGreatDoor
open Go.RowKit Go.Sort

/-- all that the program keeps -/
structure Ground (w : World) : Prop where
  first : First w
  roots : Roots w
  big : 2 < w.heap.size
theorem Ground.below {w w' : World} (h : Ground w) (hb : Below w.heap.size w w') : Ground w' :=
  ⟨h.first.below hb (by have := h.big; omega), h.roots.below hb h.big, Nat.lt_of_lt_of_le h.big hb.size⟩
theorem Ground.save {w w' : World} (h : Ground w) {p : Nat} (hb : Save p w w') (hp : 2 < p) : Ground w' :=
  ⟨fun i hi => (hb.cell (q := ⟨0, i, none⟩) (by have := h.big; show (0 : Nat) < _; omega) (by show (0 : Nat) ≠ p; omega)).trans (h.first i hi), h.roots.save hb h.big (by omega), Nat.lt_of_lt_of_le h.big hb.size⟩

/-- the bytes of a text -/
def byt (s : ByteArray) (i : Nat) : Nat := (s.data.getD i 0).toNat
theorem byt_lt (s : ByteArray) (i : Nat) : byt s i < 256 := UInt8.toNat_lt _
theorem digest_congr {n : Nat} {X Y : Nat → Nat} (h : ∀ i, i < n → X i = Y i) : digest n X = digest n Y := by
  unfold digest
  refine folds_congr _ (fun i _ => ?_)
  unfold cat
  by_cases e : i < n
  · rw [if_pos e, if_pos e, h i e]
  · rw [if_neg e, if_neg e]
theorem digest_ego (n : Nat) (X : Nat → Nat) : digest n X = ego (cat n X (padb n)) ((n + (zend n + 8)) / 64) 0 H0 := folds_ego _ _
theorem view_text (w : World) (s : ByteArray) (hs : s.size ≤ 281474976710656) : View (w.drew.alloc (.cells (bytesRow s (grownCap w s.size 0 5)) 5 ((bytesRow s (grownCap w s.size 0 5)).size, (bytesRow s (grownCap w s.size 0 5)).size + 1))) (some ⟨w.heap.size, 0, none⟩) w.heap.size 0 s.size (fun i => (byt s i : Int)) := by
  refine ⟨fun _ => rfl, fun i hi => ?_, fun i hi => ?_, hs⟩
  · have e := cell_of_row _ _ i _ 5 _ (heap_alloc_new w.drew (.cells (bytesRow s (grownCap w s.size 0 5)) 5 ((bytesRow s (grownCap w s.size 0 5)).size, (bytesRow s (grownCap w s.size 0 5)).size + 1)))
    rw [Nat.zero_add]
    refine Eq.trans e ?_
    rw [bytesRow_at s _ i hi]
    have hi' : i < s.data.size := hi
    unfold byt
    rw [Array.getD_eq_getD_getElem?, Array.getElem?_eq_getElem hi']
    rfl
  · have := byt_lt s i
    omega

/-- one list of bytes, in a new list -/
theorem parts_one {w : World} {A : Option Addr} {b off m c : Nat} {Y : Nat → Nat} (hv : View w A b off m (fun i => (Y i : Int))) (hc : m ≤ c) (hY : ∀ i, Y i < 256) (t : TypeId) :
    Parts (w.alloc (.cells #[.slice A m c] t)) (some ⟨w.heap.size, 0, none⟩) w.heap.size 0 1 (fun _ => A) (fun _ => b) (fun _ => off) (fun _ => m) (fun _ => c) (fun _ => Y) := by
  refine ⟨fun _ => rfl, fun i hi => ?_, fun i hi => hv.below ((Below.refl _ _).alloc (Nat.le_refl _) _), fun i hi => hc, fun _ => hY⟩
  have : i = 0 := by omega
  subst this
  rw [cell_of_row _ _ _ _ t _ (heap_alloc_new w _)]
  rfl
theorem tot_one (m : Nat) : tot (fun _ => m) 1 = m := by simp [tot]
theorem digest_one (m : Nat) (Y : Nat → Nat) : digest (tot (fun _ => m) 1) (jn (fun _ => m) (fun _ => Y) 1) = digest m Y := by
  rw [tot_one]
  refine digest_congr (fun i _ => ?_)
  simp [jn, cat, tot]

/-- a list of bytes at a stroke -/
theorem sum_one (w : World) (A : Option Addr) (b off m c t cap : Nat) (Y : Nat → Nat) (hv : View w A b off m (fun i => (Y i : Int))) (hc : m ≤ c) (hY : ∀ i, Y i < 256) (hF : First w) (hK : Roots w) (hw : 2 < w.heap.size) :
    Calls Tryz.prog 27 #[.slice (some ⟨w.heap.size, 0, none⟩) 1 cap] (w.alloc (.cells #[.slice A m c] t)) fun e w' => e = .returned (.agg (hashA (digest m Y))) ∧ Below (w.alloc (.cells #[.slice A m c] t)).heap.size (w.alloc (.cells #[.slice A m c] t)) w' := by
  have b0 : Below w.heap.size w (w.alloc (.cells #[.slice A m c] t)) := (Below.refl _ _).alloc (Nat.le_refl _) _
  have h := sums_any _ _ _ _ 1 cap _ _ _ _ _ _ (parts_one hv hc hY t) (hK.below b0 hw) (hF.below b0 (by omega)) (by simp; omega) (by omega) (by rw [tot_one]; have := hv.len; omega)
  rw [digest_one] at h
  exact h

theorem ch {a b c : World} (h1 : Below a.heap.size a b) (h2 : Below b.heap.size b c) : Below a.heap.size a c := h1.trans (h2.mono h1.size)
theorem hashA_one (s : W8) : (hashA s).all (·.oneCell') = true := all_one (fun i hi => ⟨_, _, hashA_cell _ i (by rw [hashA_size] at hi; exact hi)⟩)
theorem hashA_info (s : W8) : (Tryz.prog.info? 31).map (·.size) = some (hashA s).size := by rw [hashA_size]; exact info26
theorem Z32_hash (s : W8) : Z32.size = (hashA s).size := by rw [hashA_size]; rfl
/-- a hash in a block of its own -/
def HashAt (w : World) (g : Nat) (s : W8) : Prop := w.heap[g]? = some (.cells (hashA s) 31 (0, 0))
theorem HashAt.below {w w' : World} {g : Nat} {s : W8} (h : HashAt w g s) (hb : Below w.heap.size w w') : HashAt w' g s := by
  have hg : g < w.heap.size := by
    by_cases e : g < w.heap.size
    · exact e
    · have hn : w.heap[g]? = none := by simp; omega
      unfold HashAt at h
      rw [hn] at h
      cases h
  exact (hb.block g hg).trans h
theorem HashAt.cells {w : World} {g : Nat} {s : W8} (h : HashAt w g s) : ∀ j, j < (hashA s).size → w.cell? ⟨g, j, none⟩ = (hashA s)[j]? := fun j _ => cell_of_row w g j _ 31 _ h
theorem hash_laid (w : World) (s : W8) : HashAt ((w.alloc (.cells Z32 31)).setRow w.heap.size (hashA s)) w.heap.size s ∧ Below w.heap.size w ((w.alloc (.cells Z32 31)).setRow w.heap.size (hashA s)) :=
  ⟨setRow_heap _ _ _ _ _ _ (heap_alloc_new _ _), below_setRow ((Below.refl _ _).alloc (Nat.le_refl _) _) (Nat.le_refl _) _⟩

theorem quiet_load {P : Program} {ops : Array Oper} {C : World → Prop} {Q : Act → Prop} {a : Act} {o : Oper} {rest : List Oper} (hw : Region.wanted o (yielded ops a.tmps) = true) (ty : TypeId) (x : Operand) (ho : o.op = .load ty x)
    (g : Nat) (hx : a.eval x = .pointer (some ⟨g, 0, none⟩)) (cs : Array Value) (d : TypeDesc) (hc : ∀ w, C w → ∀ j, j < cs.size → w.cell? ⟨g, j, none⟩ = cs[j]?)
    (hu : P.underlying ty = some d) (hd : (match d with | .struct _ | .array _ _ => true | _ => false) = true) (hi : (P.info? ty).map (·.size) = some cs.size)
    (h : wpQuiet P ops C Q rest (a.put o.dst (.agg cs))) : wpQuiet P ops C Q (o :: rest) a := by
  refine wpQuiet_step fun K hK => ?_
  rw [if_pos hw]
  refine ⟨.agg cs, fun w hC => ?_, hK _ h⟩
  unfold Oper.quietAt execOp
  simp only [ho, hx, Instr.loadAt, Instr.sureAddr, Sem.run_bind, Sem.run_pure, Result.andThen_ok, run_loadVar_cells w g ty cs d (hc w hC) hu hd hi]
  exact ⟨rfl, rfl⟩

end Go.Proofs.YtlhllbggnpcoaaaGreatDoor

/-
  What the rows list.
-/
namespace Go.Proofs.YtlhllbggnpcoaaaGreatDoor
open Go.ChangeShapes Go.WideShapes Go.ChangeAt Go.RowKit

theorem own : ownKnob Tryz.prog.godebug = none := by kernel_rfl
theorem tab_of {W : World} {name : String} {k : IntKind} {zs : List Int} {g : Nat} {t e : TypeId} {n : Nat}
    (hg : Tryz.prog.globalNamed name = some g) (hty : (Tryz.prog.globals[g]?).map (·.type) = some t) (ht : Tryz.prog.underlying t = some (.array n e)) (he : Tryz.prog.underlying e = some (.int k)) (hce : Tryz.prog.cellsOf e = 1) (hct : Tryz.prog.cellsOf t = n)
    (h : Lib.VarReads Tryz.prog W name (Lib.tabData k zs)) : Lib.TabIs Tryz.prog W name k zs := by
  obtain ⟨g', t', cs, fuel, p, hg', ht', hvar, hd⟩ := h
  obtain rfl := Option.some.inj (hg.symm.trans hg')
  obtain rfl := Option.some.inj (hty.symm.trans ht')
  unfold Lib.TabIs
  rw [hvar, ← Lib.cells_of_tab ht he hce hct hd]
theorem gFirst : Tryz.prog.globalNamed "cairn/sha.first" = some 0 := by kernel_rfl
theorem gRoots : Tryz.prog.globalNamed "cairn/sha.roots" = some 2 := by kernel_rfl
theorem tFirst : (Tryz.prog.globals[0]?).map (·.type) = some 114 := by kernel_rfl
theorem tRoots : (Tryz.prog.globals[2]?).map (·.type) = some 144 := by kernel_rfl
theorem cells50 : Tryz.prog.cellsOf 59 = 1 := by kernel_rfl
theorem cells51 : Tryz.prog.cellsOf 114 = 8 := by kernel_rfl
theorem cells62 : Tryz.prog.cellsOf 144 = 64 := by kernel_rfl

def HL : List Int := [1779033703, 3144134277, 1013904242, 2773480762, 1359893119, 2600822924, 528734635, 1541459225]
def KI : List Int := [1116352408, 1899447441, 3049323471, 3921009573, 961987163, 1508970993, 2453635748, 2870763221, 3624381080, 310598401, 607225278, 1426881987, 1925078388, 2162078206, 2614888103, 3248222580, 3835390401, 4022224774, 264347078, 604807628, 770255983, 1249150122, 1555081692, 1996064986, 2554220882, 2821834349, 2952996808, 3210313671, 3336571891, 3584528711, 113926993, 338241895, 666307205, 773529912, 1294757372, 1396182291, 1695183700, 1986661051, 2177026350, 2456956037, 2730485921, 2820302411, 3259730800, 3345764771, 3516065817, 3600352804, 4094571909, 275423344, 430227734, 506948616, 659060556, 883997877, 958139571, 1322822218, 1537002063, 1747873779, 1955562222, 2024104815, 2227730452, 2361852424, 2428436474, 2756734187, 3204031479, 3329325298]
theorem KI_at : ∀ i, i < 64 → KI.getD i 0 = ((K i : Nat) : Int) := by decide
theorem HL_at : ∀ i, i < 8 → HL.getD i 0 = ((w8 H0 i : Nat) : Int) := by decide
/-- WHAT A ROW's LIST GIVES. -/
theorem ground {W : World} {l : List (String × DataW Unit)} (h : laidMet Tryz.prog l W) (m1 : ("cairn/sha.first", Rows.laid_cairn_sha_first) ∈ l) (m2 : ("cairn/sha.roots", Rows.laid_cairn_sha_roots) ∈ l) : Ground W := by
  have t1 : Lib.TabIs Tryz.prog W "cairn/sha.first" .u32 HL := tab_of gFirst tFirst Tryz.underlying114 Tryz.underlying59 cells50 cells51 (Lib.laidMet.reads h m1)
  have t2 : Lib.TabIs Tryz.prog W "cairn/sha.roots" .u32 KI := tab_of gRoots tRoots Tryz.underlying144 Tryz.underlying59 cells50 cells62 (Lib.laidMet.reads h m2)
  have r2 : Roots W := fun i hi => by
    have c := t2.cell gRoots i hi
    rw [c, KI_at i hi]
  refine ⟨fun i hi => ?_, r2, World.block_lt_of_cell? _ _ (r2 0 (by decide))⟩
  have c := t1.cell gFirst i hi
  rw [c, HL_at i hi]
end Go.Proofs.YtlhllbggnpcoaaaGreatDoor

/-
  Strings of bytes by their order, and lists of them that rise.
-/
namespace Go.Proofs.YtlhllbggnpcoaaaGreatDoor

/-- which of two strings stands first -/
def cmpL : List Nat → List Nat → Int
  | [], [] => 0
  | [], _ :: _ => -1
  | _ :: _, [] => 1
  | a :: x, b :: y => if a < b then -1 else if b < a then 1 else cmpL x y

theorem cmpL_self : ∀ x : List Nat, cmpL x x = 0
  | [] => rfl
  | a :: x => by simp [cmpL, cmpL_self x]
theorem cmpL_eq : ∀ {x y : List Nat}, cmpL x y = 0 → x = y
  | [], [], _ => rfl
  | [], _ :: _, h => by simp [cmpL] at h
  | _ :: _, [], h => by simp [cmpL] at h
  | a :: x, b :: y, h => by
    simp only [cmpL] at h
    split at h
    · cases h
    · split at h
      · cases h
      · have : a = b := by omega
        rw [this, cmpL_eq h]
theorem cmpL_zero {x y : List Nat} : cmpL x y = 0 ↔ x = y := ⟨cmpL_eq, fun e => by rw [e]; exact cmpL_self _⟩
theorem cmpL_neg : ∀ x y : List Nat, cmpL y x = - cmpL x y
  | [], [] => rfl
  | [], _ :: _ => rfl
  | _ :: _, [] => rfl
  | a :: x, b :: y => by
    simp only [cmpL]
    by_cases h1 : a < b
    · rw [if_pos h1, if_neg (by omega), if_pos h1]; rfl
    · by_cases h2 : b < a
      · rw [if_pos h2, if_neg h1, if_pos h2]
      · rw [if_neg h2, if_neg h1, if_neg h1, if_neg h2]; exact cmpL_neg x y
theorem cmpL_three : ∀ x y : List Nat, cmpL x y = -1 ∨ cmpL x y = 0 ∨ cmpL x y = 1
  | [], [] => by simp [cmpL]
  | [], _ :: _ => by simp [cmpL]
  | _ :: _, [] => by simp [cmpL]
  | a :: x, b :: y => by
    simp only [cmpL]
    split
    · exact Or.inl rfl
    · split
      · exact Or.inr (Or.inr rfl)
      · exact cmpL_three x y
/-- x stands ahead of y -/
def lt (x y : List Nat) : Prop := cmpL x y < 0
instance (x y : List Nat) : Decidable (lt x y) := inferInstanceAs (Decidable (cmpL x y < 0))
theorem lt_irrefl (x : List Nat) : ¬ lt x x := by unfold lt; rw [cmpL_self]; decide
theorem lt_trans : ∀ {x y z : List Nat}, lt x y → lt y z → lt x z
  | [], y, [], h, k => by
    cases y <;> simp [lt, cmpL] at h k
  | [], _, _ :: _, _, _ => by simp [lt, cmpL]
  | _ :: _, [], _, h, _ => by simp [lt, cmpL] at h
  | _ :: _, _ :: _, [], _, k => by simp [lt, cmpL] at k
  | a :: x, b :: y, c :: z, h, k => by
    unfold lt at h k ⊢
    simp only [cmpL] at h k ⊢
    split at h <;> split at k
    · rw [if_pos (by omega)]; decide
    · split at k
      · exact absurd k (by decide)
      · rw [if_pos (by omega)]; decide
    · split at h
      · exact absurd h (by decide)
      · rw [if_pos (by omega)]; decide
    · split at h
      · exact absurd h (by decide)
      · split at k
        · exact absurd k (by decide)
        · rw [if_neg (by omega), if_neg (by omega)]
          exact lt_trans (x := x) (y := y) (z := z) h k
theorem lt_asymm {x y : List Nat} (h : lt x y) : ¬ lt y x := fun k => lt_irrefl x (lt_trans h k)
theorem lt_tri (x y : List Nat) : lt x y ∨ x = y ∨ lt y x := by
  rcases cmpL_three x y with h | h | h
  · exact Or.inl (by unfold lt; omega)
  · exact Or.inr (Or.inl (cmpL_eq h))
  · refine Or.inr (Or.inr ?_)
    unfold lt
    rw [cmpL_neg, h]
    decide
theorem lt_ne {x y : List Nat} (h : lt x y) : x ≠ y := fun e => lt_irrefl y (e ▸ h)
theorem cmpL_lt {x y : List Nat} (h : lt x y) : cmpL x y = -1 := by
  rcases cmpL_three x y with e | e | e
  · exact e
  · exact absurd h (by unfold lt; omega)
  · exact absurd h (by unfold lt; omega)
theorem cmpL_gt {x y : List Nat} (h : lt y x) : cmpL x y = 1 := by rw [cmpL_neg, cmpL_lt h]; rfl

/-- a list that rises -/
abbrev Ris (L : List (List Nat)) : Prop := L.Pairwise lt

/-- a string into a list that rises, once -/
def ins (s : List Nat) : List (List Nat) → List (List Nat)
  | [] => [s]
  | x :: r => if cmpL s x < 0 then s :: x :: r else if cmpL s x = 0 then x :: r else x :: ins s r

theorem ins_cons (s x : List Nat) (r : List (List Nat)) : ins s (x :: r) = if cmpL s x < 0 then s :: x :: r else if cmpL s x = 0 then x :: r else x :: ins s r := rfl
theorem mem_ins {s x : List Nat} : ∀ {L : List (List Nat)}, x ∈ ins s L ↔ x = s ∨ x ∈ L
  | [] => by simp [ins]
  | y :: r => by
    unfold ins
    split
    · simp
    · split
      · rename_i _ h
        have := cmpL_eq h
        subst this
        simp
      · simp only [List.mem_cons, mem_ins (L := r)]
        constructor
        · rintro (h | h | h) <;> simp [h]
        · rintro (h | h | h) <;> simp [h]
theorem ris_ins {s : List Nat} : ∀ {L : List (List Nat)}, Ris L → Ris (ins s L)
  | [], _ => by simp [ins]
  | y :: r, h => by
    obtain ⟨h1, h2⟩ := List.pairwise_cons.1 h
    unfold ins
    split
    · rename_i h3
      refine List.pairwise_cons.2 ⟨fun z hz => ?_, h⟩
      rcases List.mem_cons.1 hz with e | hz
      · rw [e]; exact h3
      · exact lt_trans h3 (h1 z hz)
    · split
      · exact h
      · rename_i h3 h4
        refine List.pairwise_cons.2 ⟨fun z hz => ?_, ris_ins h2⟩
        rcases mem_ins.1 hz with e | hz
        · rw [e]
          rcases lt_tri s y with k | k | k
          · exact absurd k h3
          · exact absurd (cmpL_zero.2 k) h4
          · exact k
        · exact h1 z hz
theorem ins_mem {s : List Nat} : ∀ {L : List (List Nat)}, Ris L → s ∈ L → ins s L = L
  | [], _, h => by simp at h
  | y :: r, hr, h => by
    obtain ⟨h1, h2⟩ := List.pairwise_cons.1 hr
    unfold ins
    rcases List.mem_cons.1 h with e | h
    · subst e
      rw [cmpL_self]
      rfl
    · have := h1 s h
      have e := cmpL_gt this
      rw [e, if_neg (by decide), if_neg (by decide), ins_mem h2 h]
theorem ins_length {s : List Nat} : ∀ {L : List (List Nat)}, s ∉ L → (ins s L).length = L.length + 1
  | [], _ => rfl
  | y :: r, h => by
    unfold ins
    split
    · simp
    · split
      · rename_i h3
        exact absurd (cmpL_eq h3) (fun e => h (by simp [e]))
      · have k := ins_length (s := s) (L := r) (fun k => h (List.mem_cons_of_mem _ k))
        simp [k]
/-- how many stand ahead of s -/
def pos (s : List Nat) (L : List (List Nat)) : Nat := L.countP (fun x => decide (lt x s))
theorem pos_le (s : List Nat) (L : List (List Nat)) : pos s L ≤ L.length := List.countP_le_length
theorem ins_at {s : List Nat} : ∀ {L : List (List Nat)}, Ris L → s ∉ L → ins s L = L.take (pos s L) ++ s :: L.drop (pos s L)
  | [], _, _ => rfl
  | y :: r, hr, h => by
    obtain ⟨h1, h2⟩ := List.pairwise_cons.1 hr
    unfold ins
    by_cases k : lt y s
    · have e := cmpL_gt k
      rw [e, if_neg (by decide), if_neg (by decide)]
      have ep : pos s (y :: r) = pos s r + 1 := by simp [pos, k]
      rw [ep, List.take_succ_cons, List.drop_succ_cons, ins_at h2 (fun q => h (by simp [q]))]
      rfl
    · have k2 : lt s y := by
        rcases lt_tri s y with q | q | q
        · exact q
        · exact absurd (by simp [q]) h
        · exact absurd q k
      have e := cmpL_lt k2
      rw [e, if_pos (by decide)]
      have ep : pos s (y :: r) = 0 := by
        unfold pos
        rw [List.countP_eq_zero]
        intro z hz
        rcases List.mem_cons.1 hz with e | hz
        · rw [e]; simpa using k
        · simpa using lt_asymm (lt_trans k2 (h1 z hz))
      rw [ep]
      rfl
theorem filter_ins {s : List Nat} (p : List Nat → Bool) : ∀ {L : List (List Nat)}, Ris L → (ins s L).filter p = if p s = true then ins s (L.filter p) else L.filter p
  | [], _ => by
    by_cases h : p s = true <;> simp [ins, h]
  | y :: r, hr => by
    obtain ⟨h1, h2⟩ := List.pairwise_cons.1 hr
    rw [ins_cons]
    by_cases k : lt s y
    · have e := cmpL_lt k
      rw [e, if_pos (by decide), List.filter_cons]
      by_cases ps : p s = true
      · rw [if_pos ps, if_pos ps]
        cases hf : (y :: r).filter p with
        | nil => rfl
        | cons z t =>
          have hz : z ∈ (y :: r).filter p := by rw [hf]; simp
          have hz2 := (List.mem_filter.1 hz).1
          have : lt s z := by
            rcases List.mem_cons.1 hz2 with e | hz2
            · rw [e]; exact k
            · exact lt_trans k (h1 z hz2)
          rw [ins_cons, cmpL_lt this, if_pos (by decide)]
      · rw [if_neg ps, if_neg ps]
    · by_cases e0 : cmpL s y = 0
      · rw [e0, if_neg (by decide), if_pos rfl]
        have := cmpL_eq e0
        subst this
        by_cases ps : p s = true
        · rw [if_pos ps, ins_mem (hr.sublist List.filter_sublist) (List.mem_filter.2 ⟨by simp, ps⟩)]
        · rw [if_neg ps]
      · have k2 : lt y s := by
          rcases lt_tri s y with q | q | q
          · exact absurd q k
          · exact absurd (cmpL_zero.2 q) e0
          · exact q
        rw [cmpL_gt k2, if_neg (by decide), if_neg (by decide), List.filter_cons, filter_ins p h2]
        by_cases py : p y = true
        · rw [if_pos py, List.filter_cons, if_pos py]
          by_cases ps : p s = true
          · rw [if_pos ps, if_pos ps]
            rw [ins_cons, cmpL_gt k2, if_neg (by decide), if_neg (by decide)]
          · rw [if_neg ps, if_neg ps]
        · rw [if_neg py, List.filter_cons, if_neg py]
theorem pos_get {s : List Nat} {L : List (List Nat)} (hr : Ris L) (i : Nat) (hi : i < L.length) : i < pos s L ↔ lt L[i] s := by
  induction L generalizing i with
  | nil => simp at hi
  | cons y r ih =>
    obtain ⟨h1, h2⟩ := List.pairwise_cons.1 hr
    by_cases k : lt y s
    · have ep : pos s (y :: r) = pos s r + 1 := by simp [pos, k]
      rw [ep]
      cases i with
      | zero => simpa using k
      | succ i => simpa using ih h2 i (by simpa using hi)
    · have ep : pos s (y :: r) = 0 := by
        unfold pos
        rw [List.countP_eq_zero]
        intro z hz
        rcases List.mem_cons.1 hz with e | hz
        · rw [e]; simpa using k
        · intro q
          exact k (lt_trans (h1 z hz) (by simpa using q))
      rw [ep]
      constructor
      · intro h; omega
      · intro h
        cases i with
        | zero => exact absurd h k
        | succ i => exact absurd (lt_trans (h1 _ (List.getElem_mem (by simpa using hi))) h) k
theorem pos_found {s : List Nat} {L : List (List Nat)} (hr : Ris L) : s ∈ L ↔ ∃ h : pos s L < L.length, L[pos s L] = s := by
  constructor
  · intro h
    obtain ⟨i, hi, e⟩ := List.getElem_of_mem h
    have h1 : ¬ i < pos s L := fun k => lt_irrefl s (by have := (pos_get hr i hi).1 k; rwa [e] at this)
    have h2 : ¬ pos s L < i := fun k => by
      have hp : pos s L < L.length := by omega
      have q : lt L[pos s L] L[i] := (List.pairwise_iff_getElem.1 hr) _ _ hp hi k
      rw [e] at q
      have := (pos_get hr _ hp).2 q
      omega
    have : i = pos s L := by omega
    subst this
    exact ⟨hi, e⟩
  · rintro ⟨h, e⟩
    rw [← e]
    exact List.getElem_mem h
end Go.Proofs.YtlhllbggnpcoaaaGreatDoor
