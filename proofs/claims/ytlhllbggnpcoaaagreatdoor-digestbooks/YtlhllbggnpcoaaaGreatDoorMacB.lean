import Derived.Test.YtlhllbggnpcoaaaGreatDoorSm
import Derived.Laws.IdiomStrings
import Derived.Lib.QuietBelow
import Derived.Deep.RegionLaw
import Derived.Deep.RegionHeld3
import Derived.Deep.MidRow
/-
  What all laws of mac lean on: the tables, a hash in a block of its own, the sum of one list.
-/
namespace Go.Proofs.YtlhllbggnpcoaaaGreatDoor
open Go.RowKit Go.Sort

/-- all that the program keeps -/
structure Ground (w : World) : Prop where
  first : First w
  roots : Roots w
  big : 2 < w.heap.size
theorem Ground.below {w w' : World} (h : Ground w) (hb : Below w.heap.size w w') : Ground w' :=
  ⟨h.first.below hb (by have := h.big; omega), h.roots.below hb h.big, Nat.lt_of_lt_of_le h.big hb.size⟩
theorem Ground.save {w w' : World} (h : Ground w) {p : Nat} (hb : Save p w w') (hp : 2 < p) : Ground w' :=
  ⟨fun i hi => (hb.cell (q := ⟨0, i, none⟩) (by have := h.big; show (0 : Nat) < _; omega) (by show (0 : Nat) ≠ p; omega)).trans (h.first i hi), h.roots.save hb h.big (by omega), Nat.lt_of_lt_of_le h.big hb.size⟩

/-- the bytes of a text -/
def byt (s : ByteArray) (i : Nat) : Nat := (s.data.getD i 0).toNat
theorem byt_lt (s : ByteArray) (i : Nat) : byt s i < 256 := UInt8.toNat_lt _
theorem digest_congr {n : Nat} {X Y : Nat → Nat} (h : ∀ i, i < n → X i = Y i) : digest n X = digest n Y := by
  unfold digest
  refine folds_congr _ (fun i _ => ?_)
  unfold cat
  by_cases e : i < n
  · rw [if_pos e, if_pos e, h i e]
  · rw [if_neg e, if_neg e]
theorem digest_ego (n : Nat) (X : Nat → Nat) : digest n X = ego (cat n X (padb n)) ((n + (zend n + 8)) / 64) 0 H0 := folds_ego _ _
theorem view_text (w : World) (s : ByteArray) (hs : s.size ≤ 281474976710656) : View (w.drew.alloc (.cells (bytesRow s (grownCap w s.size 0 5)) 5 ((bytesRow s (grownCap w s.size 0 5)).size, (bytesRow s (grownCap w s.size 0 5)).size + 1))) (some ⟨w.heap.size, 0, none⟩) w.heap.size 0 s.size (fun i => (byt s i : Int)) := by
  refine ⟨fun _ => rfl, fun i hi => ?_, fun i hi => ?_, hs⟩
  · have e := cell_of_row _ _ i _ 5 _ (heap_alloc_new w.drew (.cells (bytesRow s (grownCap w s.size 0 5)) 5 ((bytesRow s (grownCap w s.size 0 5)).size, (bytesRow s (grownCap w s.size 0 5)).size + 1)))
    rw [Nat.zero_add]
    refine Eq.trans e ?_
    rw [bytesRow_at s _ i hi]
    have hi' : i < s.data.size := hi
    unfold byt
    rw [Array.getD_eq_getD_getElem?, Array.getElem?_eq_getElem hi']
    rfl
  · have := byt_lt s i
    omega

/-- one list of bytes, in a new list -/
theorem parts_one {w : World} {A : Option Addr} {b off m c : Nat} {Y : Nat → Nat} (hv : View w A b off m (fun i => (Y i : Int))) (hc : m ≤ c) (hY : ∀ i, Y i < 256) (t : TypeId) :
    Parts (w.alloc (.cells #[.slice A m c] t)) (some ⟨w.heap.size, 0, none⟩) w.heap.size 0 1 (fun _ => A) (fun _ => b) (fun _ => off) (fun _ => m) (fun _ => c) (fun _ => Y) := by
  refine ⟨fun _ => rfl, fun i hi => ?_, fun i hi => hv.below ((Below.refl _ _).alloc (Nat.le_refl _) _), fun i hi => hc, fun _ => hY⟩
  have : i = 0 := by omega
  subst this
  rw [cell_of_row _ _ _ _ t _ (heap_alloc_new w _)]
  rfl
theorem tot_one (m : Nat) : tot (fun _ => m) 1 = m := by simp [tot]
theorem digest_one (m : Nat) (Y : Nat → Nat) : digest (tot (fun _ => m) 1) (jn (fun _ => m) (fun _ => Y) 1) = digest m Y := by
  rw [tot_one]
  refine digest_congr (fun i _ => ?_)
  simp [jn, cat, tot]

/-- a list of bytes at a stroke -/
theorem sum_one (w : World) (A : Option Addr) (b off m c t cap : Nat) (Y : Nat → Nat) (hv : View w A b off m (fun i => (Y i : Int))) (hc : m ≤ c) (hY : ∀ i, Y i < 256) (hF : First w) (hK : Roots w) (hw : 2 < w.heap.size) :
    Calls Tryz.prog 27 #[.slice (some ⟨w.heap.size, 0, none⟩) 1 cap] (w.alloc (.cells #[.slice A m c] t)) fun e w' => e = .returned (.agg (hashA (digest m Y))) ∧ Below (w.alloc (.cells #[.slice A m c] t)).heap.size (w.alloc (.cells #[.slice A m c] t)) w' := by
  have b0 : Below w.heap.size w (w.alloc (.cells #[.slice A m c] t)) := (Below.refl _ _).alloc (Nat.le_refl _) _
  have h := sums_any _ _ _ _ 1 cap _ _ _ _ _ _ (parts_one hv hc hY t) (hK.below b0 hw) (hF.below b0 (by omega)) (by simp; omega) (by omega) (by rw [tot_one]; have := hv.len; omega)
  rw [digest_one] at h
  exact h

theorem ch {a b c : World} (h1 : Below a.heap.size a b) (h2 : Below b.heap.size b c) : Below a.heap.size a c := h1.trans (h2.mono h1.size)
theorem hashA_one (s : W8) : (hashA s).all (·.oneCell') = true := all_one (fun i hi => ⟨_, _, hashA_cell _ i (by rw [hashA_size] at hi; exact hi)⟩)
theorem hashA_info (s : W8) : (Tryz.prog.info? 31).map (·.size) = some (hashA s).size := by rw [hashA_size]; exact info26
theorem Z32_hash (s : W8) : Z32.size = (hashA s).size := by rw [hashA_size]; rfl
/-- a hash in a block of its own -/
def HashAt (w : World) (g : Nat) (s : W8) : Prop := w.heap[g]? = some (.cells (hashA s) 31 (0, 0))
theorem HashAt.below {w w' : World} {g : Nat} {s : W8} (h : HashAt w g s) (hb : Below w.heap.size w w') : HashAt w' g s := by
  have hg : g < w.heap.size := by
    by_cases e : g < w.heap.size
    · exact e
    · have hn : w.heap[g]? = none := by simp; omega
      unfold HashAt at h
      rw [hn] at h
      cases h
  exact (hb.block g hg).trans h
theorem HashAt.cells {w : World} {g : Nat} {s : W8} (h : HashAt w g s) : ∀ j, j < (hashA s).size → w.cell? ⟨g, j, none⟩ = (hashA s)[j]? := fun j _ => cell_of_row w g j _ 31 _ h
theorem hash_laid (w : World) (s : W8) : HashAt ((w.alloc (.cells Z32 31)).setRow w.heap.size (hashA s)) w.heap.size s ∧ Below w.heap.size w ((w.alloc (.cells Z32 31)).setRow w.heap.size (hashA s)) :=
  ⟨setRow_heap _ _ _ _ _ _ (heap_alloc_new _ _), below_setRow ((Below.refl _ _).alloc (Nat.le_refl _) _) (Nat.le_refl _) _⟩

theorem quiet_load {P : Program} {ops : Array Oper} {C : World → Prop} {Q : Act → Prop} {a : Act} {o : Oper} {rest : List Oper} (hw : Region.wanted o (yielded ops a.tmps) = true) (ty : TypeId) (x : Operand) (ho : o.op = .load ty x)
    (g : Nat) (hx : a.eval x = .pointer (some ⟨g, 0, none⟩)) (cs : Array Value) (d : TypeDesc) (hc : ∀ w, C w → ∀ j, j < cs.size → w.cell? ⟨g, j, none⟩ = cs[j]?)
    (hu : P.underlying ty = some d) (hd : (match d with | .struct _ | .array _ _ => true | _ => false) = true) (hi : (P.info? ty).map (·.size) = some cs.size)
    (h : wpQuiet P ops C Q rest (a.put o.dst (.agg cs))) : wpQuiet P ops C Q (o :: rest) a := by
  refine wpQuiet_step fun K hK => ?_
  rw [if_pos hw]
  refine ⟨.agg cs, fun w hC => ?_, hK _ h⟩
  unfold Oper.quietAt execOp
  simp only [ho, hx, Instr.loadAt, Instr.sureAddr, Sem.run_bind, Sem.run_pure, Result.andThen_ok, run_loadVar_cells w g ty cs d (hc w hC) hu hd hi]
  exact ⟨rfl, rfl⟩

end Go.Proofs.YtlhllbggnpcoaaaGreatDoor

/-
  The law's rest, and rows that are made.
-/
namespace Go.Proofs.YtlhllbggnpcoaaaGreatDoor
open Go.RowKit

theorem rest_eq (n m : Int) (hm : 0 < m) : (n.tmod m + m).tmod m = n % m := by
  have h1 := Int.tmod_add_mul_tdiv n m
  have h2 : -m < n.tmod m := by
    have := Int.lt_tmod_of_pos n hm
    exact this
  have h3 : n.tmod m < m := Int.tmod_lt_of_pos n hm
  rw [Int.tmod_eq_emod_of_nonneg (by omega), Int.add_emod_right]
  have e : n = n.tmod m + m * n.tdiv m := by omega
  conv => rhs; rw [e]
  rw [Int.add_mul_emod_self_left]

/-- a row of bytes that the law has made -/
structure Mk (w wr : World) (g n : Nat) (f : Nat → Nat) : Prop where
  below : Below w.heap.size w wr
  lo : w.heap.size ≤ g
  row : wr.rowIs g 5 n (fun i => .int .u8 (f i))
theorem Mk.set {w wr : World} {g n : Nat} {f : Nat → Nat} (h : Mk w wr g n f) (i v : Nat) : Mk w (wr.setCell ⟨g, i, none⟩ (.int .u8 v)) g n (fun j => if j = i then v else f j) :=
  ⟨h.below.setCell h.lo _, h.lo, (h.row.set i _).congr (fun j _ => by split <;> rfl)⟩
theorem Mk.congr {w wr : World} {g n : Nat} {f f' : Nat → Nat} (h : Mk w wr g n f) (e : ∀ i, i < n → f i = f' i) : Mk w wr g n f' :=
  ⟨h.below, h.lo, h.row.congr (fun i hi => by rw [e i hi])⟩
theorem Mk.step {w wr w' : World} {g n : Nat} {f : Nat → Nat} (h : Mk w wr g n f) (hb : Below wr.heap.size wr w') : Mk w w' g n f :=
  ⟨h.below.trans (hb.mono h.below.size), h.lo, h.row.of_block (hb.block _ h.row.lt)⟩
theorem Mk.save {w wr w' : World} {g n p : Nat} {f : Nat → Nat} (h : Mk w wr g n f) (hs : Save p wr w') (hp : w.heap.size ≤ p) (hgp : g ≠ p) : Mk w w' g n f :=
  ⟨h.below.trans (hs.below hp h.below.size), h.lo, hs.row h.row hgp⟩
theorem mk_made {w w1 : World} (hb : Below w.heap.size w w1) (n : Nat) : Mk w (w1.alloc (.cells (madeCells #[.int .u8 0] n) 5)) w1.heap.size n (fun _ => 0) :=
  ⟨hb.alloc hb.size _, hb.size, World.rowIs_made w1 _ n 5⟩
theorem Mk.view {w wr : World} {g n : Nat} {f : Nat → Nat} (h : Mk w wr g n f) (hf : ∀ i, f i < 256) (i k : Nat) (hik : i + k ≤ n) (hn : n ≤ 281474976710656) : View wr (some ⟨g, i, none⟩) g i k (fun j => (f (i + j) : Int)) :=
  ⟨fun _ => rfl, fun j hj => h.row.cell (by omega), fun j hj => by have := hf (i + j); omega, by omega⟩
def hashL (s : W8) : List Value := (List.range 32).map (fun i => Value.int .u8 (hb s i))
theorem hashL_len (s : W8) : (Tryz.prog.info? 31).map (·.size) = some (hashL s).length := by
  unfold hashL
  simp only [List.length_map, List.length_range]
  exact info26
theorem HashAt.range {w : World} {g : Nat} {s : W8} (h : HashAt w g s) : w.rangeAt g 0 (hashL s) := by
  intro j v hj
  have hl : j < 32 := by
    have := (List.getElem?_eq_some_iff.1 hj).1
    simpa [hashL] using this
  rw [Nat.zero_add, h.cells j (by rw [hashA_size]; exact hl), hashA_cell s j hl]
  unfold hashL at hj
  rw [List.getElem?_map, List.getElem?_range hl] at hj
  exact hj
theorem eq_hashL (w : World) (s : W8) : (Op.equalIn 10000 31 (.agg (hashL s).toArray) (.agg (hashA s))).run Tryz.prog w = .ok true w := eq_hashA w s
end Go.Proofs.YtlhllbggnpcoaaaGreatDoor

/-
  mac: the block of a secret, and a block with a mask.
-/
namespace Go.Proofs.YtlhllbggnpcoaaaGreatDoor
open Go.RowKit

def Y64 : Array Value := #[.int .u8 0, .int .u8 0, .int .u8 0, .int .u8 0, .int .u8 0, .int .u8 0, .int .u8 0, .int .u8 0, .int .u8 0, .int .u8 0, .int .u8 0, .int .u8 0, .int .u8 0, .int .u8 0, .int .u8 0, .int .u8 0, .int .u8 0, .int .u8 0, .int .u8 0, .int .u8 0, .int .u8 0, .int .u8 0, .int .u8 0, .int .u8 0, .int .u8 0, .int .u8 0, .int .u8 0, .int .u8 0, .int .u8 0, .int .u8 0, .int .u8 0, .int .u8 0, .int .u8 0, .int .u8 0, .int .u8 0, .int .u8 0, .int .u8 0, .int .u8 0, .int .u8 0, .int .u8 0, .int .u8 0, .int .u8 0, .int .u8 0, .int .u8 0, .int .u8 0, .int .u8 0, .int .u8 0, .int .u8 0, .int .u8 0, .int .u8 0, .int .u8 0, .int .u8 0, .int .u8 0, .int .u8 0, .int .u8 0, .int .u8 0, .int .u8 0, .int .u8 0, .int .u8 0, .int .u8 0, .int .u8 0, .int .u8 0, .int .u8 0, .int .u8 0]
theorem Y64_rep : Y64 = Array.replicate 64 (.int .u8 0) := by rfl
theorem info64 : (Tryz.prog.info? 115).map (fun i => (i.zero, i.size)) = some (some (.agg Y64), 64) := by kernel_rfl
theorem info64s : (Tryz.prog.info? 115).map (·.size) = some 64 := by kernel_rfl

/-- sixty-four bytes as a value -/
def blkA (B : Nat → Nat) : Array Value := ((List.range 64).map (fun i => Value.int .u8 (B i))).toArray
theorem blkA_size (B : Nat → Nat) : (blkA B).size = 64 := by simp [blkA]
theorem blkA_cell (B : Nat → Nat) : ∀ i, i < 64 → (blkA B)[i]? = some (.int .u8 (B i)) := by
  intro i hi
  unfold blkA
  rw [List.getElem?_toArray, List.getElem?_map, List.getElem?_range hi]
  rfl
theorem blkA_of {cs : Array Value} {B : Nat → Nat} (h : cs.size = 64) (hc : ∀ i, i < 64 → cs[i]? = some (.int .u8 (B i))) : cs = blkA B := by
  apply Array.ext_getElem?
  intro i
  by_cases hi : i < 64
  · rw [hc i hi, blkA_cell B i hi]
  · rw [Array.getElem?_eq_none (by omega), Array.getElem?_eq_none (by rw [blkA_size]; omega)]
theorem blkA_congr {B C : Nat → Nat} (h : ∀ i, i < 64 → B i = C i) : blkA B = blkA C := blkA_of (blkA_size B) (fun i hi => by rw [blkA_cell B i hi, h i hi])
theorem blkA_info (B : Nat → Nat) : (Tryz.prog.info? 115).map (·.size) = some (blkA B).size := by rw [blkA_size]; exact info64s
theorem blkA_one (B : Nat → Nat) : (blkA B).all (·.oneCell') = true := all_one (fun i hi => ⟨_, _, blkA_cell _ i (by rw [blkA_size] at hi; exact hi)⟩)
theorem Y64_blk (B : Nat → Nat) : Y64.size = (blkA B).size := by rw [blkA_size]; rfl

/-- each byte with x -/
def msk (x : Nat) (B : Nat → Nat) (i : Nat) : Nat := B i ^^^ x
theorem msk_lt {x : Nat} {B : Nat → Nat} (hx : x < 256) (hB : ∀ i, B i < 256) (i : Nat) : msk x B i < 256 := Nat.xor_lt_two_pow (n := 8) (hB i) hx
structure MF (w wr : World) (F : Nat → Nat) : Prop where
  below : Below w.heap.size w wr
  row : wr.rowIs w.heap.size 115 64 (fun i => .int .u8 (F i))
  out : wr.rowIs (w.heap.size + 1) 115 64 (fun _ => .int .u8 0)
theorem MF.set {w wr : World} {F : Nat → Nat} (h : MF w wr F) (i v : Nat) : MF w (wr.setCell ⟨w.heap.size, i, none⟩ (.int .u8 v)) (fun j => if j = i then v else F j) :=
  ⟨h.below.setCell (Nat.le_refl _) _, (h.row.set i _).congr (fun j _ => by split <;> rfl), h.out.setOther (by show w.heap.size + 1 ≠ w.heap.size; omega) _⟩
theorem MF.congr {w wr : World} {F G : Nat → Nat} (h : MF w wr F) (e : ∀ i, i < 64 → F i = G i) : MF w wr G := ⟨h.below, h.row.congr (fun i hi => by rw [e i hi]), h.out⟩
theorem mf_start (w : World) (B : Nat → Nat) : MF w ((w.alloc (.cells (blkA B) 115)).alloc (.cells Y64 115)) B := by
  have r := World.rowIs_alloc w (blkA B) 115 (fun i => .int .u8 (B i)) (fun i hi => blkA_cell B i (by rw [blkA_size] at hi; exact hi))
  rw [blkA_size] at r
  have o : ((w.alloc (.cells (blkA B) 115)).alloc (.cells Y64 115)).rowIs (w.heap.size + 1) 115 64 (fun _ => .int .u8 0) := by
    rw [Y64_rep]
    have := zeros_row (w.alloc (.cells (blkA B) 115)) (.int .u8 0) 64 115
    rwa [World.size_alloc] at this
  exact ⟨((Below.refl _ _).alloc (Nat.le_refl _) _).alloc (by simp) _, r.alloc _, o⟩

set_option maxRecDepth 100000 in
set_option maxHeartbeats 1600000 in
theorem masked_any (w : World) (B : Nat → Nat) (hB : ∀ i, B i < 256) (x : Nat) (hx : x < 256) :
    Calls Tryz.prog 111 #[.agg (blkA B), .int .u8 x] w fun e w' => e = .returned (.agg (blkA (msk x B))) ∧ Below w.heap.size w w' := by
  have z64 := (zero_of_info info64).1
  have HM : Hid (MF w ((w.alloc (.cells (blkA B) 115)).alloc (.cells Y64 115)) B) := mf_start w B
  have bs := blkA_size B
  go_enter Tryz.func111, Tryz.ntmps111
  go_wp2_with fail
  go_loopg [6] 64 (fun g i wr => ∃ k : Nat, k ≤ 64 ∧ g = 64 - k ∧ i = .int .i64 k ∧ MF w wr (fun j => if j < k then msk x B j else B j))
  case atStart => exact ⟨0, by omega, rfl, rfl, HM.out.congr (fun i _ => by simp)⟩
  case round =>
    obtain ⟨k, hk, rfl, rfl, hR⟩ := hrel
    clear HM
    by_cases hkn : k < 64
    · have cc := hR.row.cell (i := k) hkn
      have fz := hR.row.frozen k
      simp only [Nat.lt_irrefl, if_false] at cc
      have hb := hB k
      obtain ⟨z, hz⟩ : ∃ z, z = B k := ⟨_, rfl⟩
      rw [← hz] at cc hb
      have Hz : Hid (z = B k) := hz
      have HR : Hid (MF w wr (fun j => if j < k then msk x B j else B j)) := hR
      have hxx := u8_xor_nat z x hb hx
      clear hR hz
      go_wp2_with fail
      go_roundg (64 - (k + 1))
      case measure => omega
      case rel =>
        refine ⟨k + 1, by omega, rfl, by go_num, (HR.out.set k _).congr (fun i _ => ?_)⟩
        by_cases e : i = k
        · subst e
          rw [if_pos rfl, if_pos (by omega), Hz.out]
          rfl
        · rw [if_neg e]
          by_cases l : i < k
          · rw [if_pos l, if_pos (by omega)]
          · rw [if_neg l, if_neg (by omega)]
    · have : k = 64 := by omega
      subst this
      obtain ⟨cs, hg, hsz, hcs⟩ := hR.row
      obtain ⟨os, og, osz, _⟩ := hR.out
      have hi : (Tryz.prog.info? 115).map (·.size) = some cs.size := by rw [hsz]; exact info64s
      have h1 : cs.all (·.oneCell') = true := all_one (fun i hi => ⟨_, _, hcs i (by omega)⟩)
      have HR : Hid (MF w wr (fun j => if j < 64 then msk x B j else B j)) := hR
      have HC : Hid (cs = blkA (msk x B)) := blkA_of hsz (fun i hi => by rw [hcs i hi]; simp only [if_pos hi])
      clear hR hcs
      go_wp2_with (first
        | refine wpList_load_row rfl 115 (.tmp 2) rfl w.heap.size rfl 115 cs (0, 0) _ hg Tryz.underlying115 rfl hi ?_
        | refine wpList_store_row rfl 115 (.tmp 4) (.tmp 16) rfl (w.heap.size + 1) cs rfl rfl 115 os og hi (by omega) h1 ?_)
      refine bodyPost_ret (v := .agg cs) ?_ rfl ?_
      · exact results_cell_row rfl _ _ (w.heap.size + 1) 115 cs (0, 0) _ rfl (setRow_heap _ _ _ _ _ _ og) Tryz.underlying115 rfl hi
      · exact ⟨by rw [← HC.out], below_setRow HR.out.below (by omega) _⟩
end Go.Proofs.YtlhllbggnpcoaaaGreatDoor

/-
  mac: the block of a secret.
-/
namespace Go.Proofs.YtlhllbggnpcoaaaGreatDoor
open Go.RowKit

/-- the builtin copy, of bytes, as one step of a region that draws its order -/
theorem step_copy_in {w : World} {ops : Array Oper} {o : Oper} {a : Act} {K : Act → World → Prop} {Q : Exit → Act → World → Prop} {E : Prop} (hgd : o.guard = none) (d s : Operand)
    (ho : o.op = .call { callee := .builtin .copy, args := #[d, s], argTypes := #[26, 26] })
    (g off dLen dCap t N : Nat) (f : Nat → Value) (hd : a.eval d = .slice (some ⟨g, off, none⟩) dLen dCap) (hr : w.rowIs g t N f) (hfit : off + dLen ≤ N)
    (sp : Option Addr) (b o2 m c : Nat) (Z : Nat → Int) (hs : a.eval s = .slice sp m c) (hv : View w sp b o2 m Z) (cnt : Nat) (hcnt : cnt = Nat.min m dLen)
    (h : ∀ w', Save g w w' → w'.rowIs g t N (fun i => if off ≤ i ∧ i < off + cnt then .int .u8 (Z (i - off)) else f i) → K (a.put o.dst (.int .i64 cnt)) w') :
    if Region.wanted o (yielded ops a.tmps) = true then Oper.wp Tryz.prog o a w K Q else E := by
  have hw : Region.wanted o (yielded ops a.tmps) = true := by simp [Region.wanted, hgd]
  rw [if_pos hw]
  obtain ⟨cur, hg, hsz, hc⟩ := hr
  have hle : cnt ≤ m ∧ cnt ≤ dLen := by rw [hcnt]; exact ⟨Nat.min_le_left _ _, Nat.min_le_right _ _⟩
  by_cases h0 : cnt = 0
  · subst h0
    have hrun := run_copy_none (P := Tryz.prog) w 26 26 o.type 5 (some ⟨g, off, none⟩) sp dLen dCap m c Tryz.underlying26 info5size hcnt.symm
    unfold Oper.wp
    simp [execOp, ho, resolve, invoke, builtin, hd, hs, hrun, Result.andThen]
    exact h w (Save.refl _ _) ⟨cur, hg, hsz, fun i hi => by show cur[i]? = some (if off ≤ i ∧ i < off + 0 then _ else f i); rw [if_neg (by omega)]; exact hc i hi⟩
  · obtain rfl := hv.at_ (by omega)
    have hl : ((List.range cnt).map (fun i => Value.int .u8 (Z i))).length = cnt := by simp
    have hrun := run_copy_row (P := Tryz.prog) w 26 26 o.type 5 g off dLen dCap ⟨b, o2, none⟩ m c cur t ((List.range cnt).map (fun i => Value.int .u8 (Z i))) Tryz.underlying26 info5size hg (by rw [hl, hcnt]) (by
      intro j v hj
      have hjl : j < cnt := by
        have := (List.getElem?_eq_some_iff.1 hj).1
        omega
      rw [List.getElem?_map, List.getElem?_range hjl] at hj
      have e : v = .int .u8 (Z j) := by simpa using hj.symm
      subst e
      rw [Go.WideShapes.add_plain]
      exact hv.cell j (by omega)) (by rw [hl, hsz]; omega) (by
      intro v hv'
      simp only [List.mem_map] at hv'
      obtain ⟨i, _, rfl⟩ := hv'
      rfl)
    have sp := splice_cell (Z := Z) hsz hc (by omega) _ rfl (cnt := cnt) (off := off)
    have hh := h (w.setRow g ((cur.toList.take off ++ (((List.range cnt).map (fun i => Value.int .u8 (Z i))) ++ cur.toList.drop (off + ((List.range cnt).map (fun i => Value.int .u8 (Z i))).length))).toArray)) ((Save.refl _ _).setRow _) (rowIs_setRow hg sp.1 sp.2)
    rw [hl] at hrun hh
    unfold Oper.wp
    simp only [execOp, ho, resolve, invoke, builtin]
    simp [hd, hs, hrun, Result.andThen]
    exact hh

/-- the block of a secret of n bytes S -/
def blk (n : Nat) (S : Nat → Nat) (i : Nat) : Nat := if n ≤ 64 then (if i < n then S i else 0) else if i < 32 then hb (digest n S) i else 0
theorem hb_lt (s : W8) (i : Nat) : hb s i < 256 := Nat.mod_lt _ (by decide)
theorem blk_lt {n : Nat} {S : Nat → Nat} (h : ∀ i, S i < 256) (i : Nat) : blk n S i < 256 := by
  unfold blk
  split
  · split
    · exact h i
    · omega
  · split
    · exact hb_lt _ _
    · omega

/-- two new blocks of zeros -/
structure BF (w w2 : World) : Prop where
  below : Below w.heap.size w w2
  size : w2.heap.size = w.heap.size + 2
  out : w2.heap[w.heap.size]? = some (.cells Y64 115 (0, 0))
  row : w2.rowIs (w.heap.size + 1) 115 64 (fun _ => .int .u8 0)
theorem bf_start (w : World) : BF w ((w.alloc (.cells Y64 115)).alloc (.cells Y64 115)) := by
  refine ⟨((Below.refl _ _).alloc (Nat.le_refl _) _).alloc (by simp) _, by simp, ?_, ?_⟩
  · rw [heap_alloc_old _ _ (by simp)]
    exact heap_alloc_new _ _
  · have := zeros_row (w.alloc (.cells Y64 115)) (.int .u8 0) 64 115
    rw [World.size_alloc] at this
    have e : Array.replicate 64 (Value.int .u8 0) = Y64 := Y64_rep.symm
    rw [e] at this
    exact this
theorem hash_view {w : World} {g : Nat} {s : W8} (h : HashAt w g s) : View w (some ⟨g, 0, none⟩) g 0 32 (fun i => ((hb s i : Nat) : Int)) :=
  ⟨fun _ => rfl, fun i hi => by rw [Nat.zero_add, h.cells i (by rw [hashA_size]; exact hi), hashA_cell s i hi], fun i _ => by have := hb_lt s i; omega, by omega⟩

set_option maxRecDepth 100000 in
set_option maxHeartbeats 1600000 in
theorem blockOf_any (w : World) (A : Option Addr) (b off n c : Nat) (S : Nat → Nat) (hv : View w A b off n (fun i => (S i : Int))) (hc : n ≤ c) (hS : ∀ i, S i < 256) (hG : Ground w) :
    Calls Tryz.prog 110 #[.slice A n c] w fun e w' => e = .returned (.agg (blkA (blk n S))) ∧ Below w.heap.size w w' := by
  have z64 := (zero_of_info info64).1
  have HB : Hid (BF w ((w.alloc (.cells Y64 115)).alloc (.cells Y64 115))) := bf_start w
  have HV : Hid (View w A b off n (fun i => (S i : Int))) := hv
  have HG : Hid (Ground w) := hG
  have ln := hv.len
  clear hv hG
  by_cases hn : n ≤ 64
  · go_enter Tryz.func110, Tryz.ntmps110
    go_wp2_with (first
      | ((refine wpList_copy_in (by rfl) (.tmp 15) (.tmp 16) (by rfl) (w.heap.size + 1) 0 64 64 115 64 (fun _ => .int .u8 0) (by rfl) HB.out.row (by omega) A b off n c _ (by rfl) (HV.out.below HB.out.below) n (Nat.min_eq_left hn).symm ?_); intro wn hsn hrn; have og : wn.heap[w.heap.size]? = some (.cells Y64 115 (0, 0)) := ((hsn.block w.heap.size (by rw [HB.out.size]; omega) (by omega)).trans HB.out.out); have HS : Hid (Below w.heap.size w wn) := HB.out.below.trans (hsn.below (by omega) (by rw [HB.out.size]; omega)); obtain ⟨cs, hg, hsz, hcs⟩ := hrn; have HC : Hid (cs = blkA (blk n S)) := (blkA_of hsz (fun i hi => by rw [hcs i hi]; unfold blk; rw [if_pos hn]; by_cases e : i < n; (simp [e]); (simp [e]))); have hi : (Tryz.prog.info? 115).map (·.size) = some cs.size := (by rw [hsz]; exact info64s); have h1 : cs.all (·.oneCell') = true := (by rw [HC.out]; exact blkA_one _); have hz : Y64.size = cs.size := (by rw [hsz]; rfl); clear hcs hsn)
      | refine wpList_load_row rfl 115 (.tmp 3) rfl (w.heap.size + 1) rfl 115 cs (0, 0) _ hg Tryz.underlying115 rfl hi ?_
      | refine wpList_store_row rfl 115 (.tmp 2) (.tmp 18) rfl w.heap.size cs rfl rfl 115 Y64 og hi hz h1 ?_)
    refine bodyPost_ret (v := .agg cs) ?_ rfl ?_
    · exact results_cell_row rfl _ _ w.heap.size 115 cs (0, 0) _ rfl (setRow_heap _ _ _ _ _ _ og) Tryz.underlying115 rfl hi
    · exact ⟨by rw [← HC.out], below_setRow HS.out (Nat.le_refl _) _⟩
  · obtain ⟨w2, hw2⟩ : ∃ x, x = (w.alloc (.cells Y64 115)).alloc (.cells Y64 115) := ⟨_, rfl⟩
    have c15 := sum_one w2 A b off n c 26 1 S (HV.out.below (by rw [hw2]; exact HB.out.below)) hc hS (by rw [hw2]; exact (HG.out.below HB.out.below).first) (by rw [hw2]; exact (HG.out.below HB.out.below).roots) (by rw [hw2]; exact (HG.out.below HB.out.below).big)
    rw [← hw2] at HB
    have z2 : w2.heap.size = w.heap.size + 2 := HB.out.size
    rw [z2] at c15
    obtain ⟨D, hD⟩ : ∃ d, d = digest n S := ⟨_, rfl⟩
    rw [← hD] at c15
    have HD : Hid (D = digest n S) := hD
    have Hw2 : Hid (w2 = (w.alloc (.cells Y64 115)).alloc (.cells Y64 115)) := hw2
    clear hD
    rw [hw2] at c15
    clear hw2 z2
    go_enter Tryz.func110, Tryz.ntmps110
    go_wp2_with fail
    refine c15.mono ?_
    rintro _ w3 ⟨rfl, hb3⟩
    rw [← Hw2.out] at hb3
    have b3 : Below w2.heap.size w2 w3 := (((Below.refl _ _).alloc (Nat.le_refl _) _).trans (hb3.mono (by simp)))
    have hl := hash_laid w3 D
    have b4 : Below w2.heap.size w2 ((w3.alloc (.cells Z32 31)).setRow w3.heap.size (hashA D)) := ch b3 hl.2
    have HX : Hid (HashAt ((w3.alloc (.cells Z32 31)).setRow w3.heap.size (hashA D)) w3.heap.size D ∧ Below w2.heap.size w2 ((w3.alloc (.cells Z32 31)).setRow w3.heap.size (hashA D)) ∧ w2.heap.size ≤ w3.heap.size) := ⟨hl.1, b4, b3.size⟩
    clear hb3 b3 hl b4 c15
    go_wp2_with (refine wpList_store_row (by rfl) 31 (.tmp 4) (.tmp 10) (by rfl) w3.heap.size (hashA D) (by rfl) (by rfl) 31 Z32 (heap_alloc_new _ _) (hashA_info _) (Z32_hash _) (hashA_one _) ?_; change wpList _ _ _ _ _ ((w3.alloc (.cells Z32 31)).setRow w3.heap.size (hashA D)); revert HX; generalize (w3.alloc (.cells Z32 31)).setRow w3.heap.size (hashA D) = w4; intro HX)
    have s2 := HB.out.size
    have b5 : Below w.heap.size w w4 := HB.out.below.trans (HX.out.2.1.mono (by omega))
    have r4 : w4.drew.rowIs (w.heap.size + 1) 115 64 (fun _ => .int .u8 0) := (HB.out.row.of_block (HX.out.2.1.block _ (by omega))).of_block rfl
    have v4 : View w4.drew (some ⟨w3.heap.size, 0, none⟩) w3.heap.size 0 32 (fun i => ((hb D i : Nat) : Int)) := (hash_view HX.out.1).below ((Below.refl _ _).drew)
    have g4 : w4.drew.heap[w.heap.size]? = some (.cells Y64 115 (0, 0)) := (HX.out.2.1.block _ (by omega)).trans HB.out.out
    have HR4 : Hid (w4.drew.rowIs (w.heap.size + 1) 115 64 (fun _ => .int .u8 0) ∧ View w4.drew (some ⟨w3.heap.size, 0, none⟩) w3.heap.size 0 32 (fun i => ((hb D i : Nat) : Int)) ∧ w4.drew.heap[w.heap.size]? = some (.cells Y64 115 (0, 0)) ∧ Below w.heap.size w w4.drew ∧ w.heap.size + 2 ≤ w4.drew.heap.size) := ⟨r4, v4, g4, b5.drew, Nat.le_trans (by omega) HX.out.2.1.size⟩
    clear r4 v4 g4 b5 HX
    go_region_law (refine step_copy_in (by rfl) (.tmp 11) (.tmp 12) (by rfl) (w.heap.size + 1) 0 64 64 115 64 (fun _ => .int .u8 0) (by rfl) HR4.out.1 (by omega) (some ⟨w3.heap.size, 0, none⟩) w3.heap.size 0 32 32 _ (by rfl) HR4.out.2.1 32 (by rfl) ?_; intro wn hsn hrn)
    have og : wn.heap[w.heap.size]? = some (.cells Y64 115 (0, 0)) := ((hsn.block w.heap.size (by have := HR4.out.2.2.2.2; omega) (by omega)).trans HR4.out.2.2.1)
    have HS : Hid (Below w.heap.size w wn) := HR4.out.2.2.2.1.trans (hsn.below (by omega) HR4.out.2.2.2.1.size)
    obtain ⟨cs, hg, hsz, hcs⟩ := hrn
    have HC : Hid (cs = blkA (blk n S)) := blkA_of hsz (fun i hi => by
      rw [hcs i hi]
      unfold blk
      rw [if_neg hn, ← HD.out]
      by_cases e : i < 32
      · simp [e]
      · simp [e])
    have hi : (Tryz.prog.info? 115).map (·.size) = some cs.size := by rw [hsz]; exact info64s
    have h1 : cs.all (·.oneCell') = true := by rw [HC.out]; exact blkA_one _
    have hz : Y64.size = cs.size := by rw [hsz]; rfl
    clear hcs hsn HR4
    go_wp2_with (first
      | refine wpList_load_row rfl 115 (.tmp 3) rfl (w.heap.size + 1) rfl 115 cs (0, 0) _ hg Tryz.underlying115 rfl hi ?_
      | refine wpList_store_row rfl 115 (.tmp 2) (.tmp 14) rfl w.heap.size cs rfl rfl 115 Y64 og hi hz h1 ?_)
    refine bodyPost_ret (v := .agg cs) ?_ rfl ?_
    · exact results_cell_row rfl _ _ w.heap.size 115 cs (0, 0) _ rfl (setRow_heap _ _ _ _ _ _ og) Tryz.underlying115 rfl hi
    · exact ⟨by rw [← HC.out], below_setRow HS.out (Nat.le_refl _) _⟩
end Go.Proofs.YtlhllbggnpcoaaaGreatDoor
