import Derived.Test.YteldpcbhfbgomaaGreatDoorF6zz
import Derived.Laws.LoneSync
import Derived.KernelRfl
import Derived.Test.YteldpcbhfbgomaaGreatDoorQRWordszz
import Derived.Test.YteldpcbhfbgomaaGreatDoorQLczz
namespace Go.Ev
open Go
section
variable {P : Program} {E : En}
theorem store_one {w w' : World} {g o : Nat} {u v : Value} (hv : v.oneCell' = true) (hc : w.cell? ⟨g, o, none⟩ = some u) (h : (storeCells ⟨g, o, none⟩ [v]).run P w = .ok () w') : w.frozen? ⟨g, o, none⟩ = false ∧ w' = w.setCell ⟨g, o, none⟩ v := by
 simp only [storeCells, add_eq, Nat.add_zero, Sem.run_bind] at h
 rw [run_store P w _ v _ hv, hc] at h
 cases hz : w.frozen? ⟨g, o, none⟩ with
 | true => rw [hz] at h; simp [Result.andThen] at h
 | false =>
  rw [hz] at h
  simp at h
  exact ⟨rfl, h.symm⟩
theorem next_none {fn : Func} {n : String} (hn : fn.name = n) (ho : fn.origin = "") (h : Extern.allNextRows.lookup n = none) : Extern.findNext fn = none := by
 unfold Extern.findNext
 simp only [hn, ho, h, show Extern.allNextRows.lookup "" = none by kernel_rfl]
 rfl
theorem find_some {fn : Func} {n : String} {e : Array Value → Sem Value} (hn : fn.name = n) (h1 : Extern.allGenericRows.lookup n = none) (h2 : Extern.allTypedRows.lookup n = none) (h3 : Extern.allRows.lookup n = some e) : Extern.find fn = some e := by
 unfold Extern.find
 simp only [hn, h1, h2, h3]
 rfl
theorem goMain {fn : Func} {n : String} (hn : fn.name = n) (h : (n == "runtime.NumGoroutine") = false) : (fn.name == "runtime.NumGoroutine") = false := by rw [hn]; exact h
theorem bytesOf_run {w : World} : ∀ (ns : List Nat) (g o : Nat) (acc : ByteArray), (∀ (j : Nat) (n : Nat), ns[j]? = some n → w.cell? ⟨g, o + j, none⟩ = some (.int .u8 (.ofNat n))) →
  (Extern.Bytes.loadBytes ⟨g, o, none⟩ ns.length acc).run P w = .ok ⟨⟨acc.data.toList ++ ns.map UInt8.ofNat⟩⟩ w
 | [], g, o, acc, _ => by simp [Extern.Bytes.loadBytes]
 | n :: ns, g, o, acc, h => by
  have h0 := h 0 n rfl
  rw [Nat.add_zero] at h0
  have ih := bytesOf_run ns g (o + 1) (acc.push (UInt8.ofNat n)) (fun j m hj => by
   rw [show o + 1 + j = o + (j + 1) by omega]; exact h (j + 1) m hj)
  simp only [List.length_cons, Extern.Bytes.loadBytes, Sem.run_bind, run_load, h0, Result.andThen_ok]
  rw [add_eq]
  have e : (Int.ofNat n).toNat.toUInt8 = UInt8.ofNat n := rfl
  rw [e, ih]
  simp [ByteArray.push]
theorem bytesIn_run {s : St} {w : World} (h : Obs E s w) {q : Option Addr} {n c : Nat} {v' : Value} {bs : List UInt8} (hv : VR E (.slice q n c) v') (hb : bytesIn s q n c = some bs) : (Extern.Bytes.bytesOf v').run P w = .ok ⟨⟨bs⟩⟩ w := by
 unfold bytesIn at hb
 split at hb
 case h_2 => cases hb
 rename_i cs hcs
 obtain ⟨ns, rfl, rfl⟩ := bytesOf_some hb
 have nil0 : ∀ {l : List Value}, some l = some (ns.map fun n => Value.int .u8 (.ofNat n)) → l = [] → ns = [] := by
  intro l e1 e2
  subst e2
  have := Option.some.inj e1
  cases ns with
  | nil => rfl
  | cons a b => cases this
 cases q with
 | none =>
  have hcs' : cond (Nat.beq n 0) (some []) none = some (ns.map fun n => Value.int .u8 (.ofNat n)) := hcs
  cases en : Nat.beq n 0 with
  | false => rw [en] at hcs'; cases hcs'
  | true =>
   rw [en] at hcs'
   obtain rfl := nil0 hcs' rfl
   obtain rfl := plain_eq 1 _ _ rfl hv
   rfl
 | some a =>
  obtain ⟨b, off, sp⟩ := a
  cases sp with
  | none =>
   obtain ⟨_, c', rfl, _⟩ := hv.sl_inv
   have hr : readAt s b off (Nat.mul n 1) = some (ns.map fun n => Value.int .u8 (.ofNat n)) := hcs
   have hl : ns.length = n := by
    have := readAt_len hr
    rw [List.length_map] at this
    rw [this]; exact Nat.mul_one n
   obtain ⟨r', k1, k2⟩ := readAt_cell P h hr
   have e := k1.ints_eq
   subst e
   have := bytesOf_run (P := P) (w := w) ns (E.ι b) (E.sh b + off) .empty (fun j m hj => k2 j _ (by rw [List.getElem?_map, hj]; rfl))
   rw [hl] at this
   exact this
  | some z =>
   have hcs' : cond (Nat.beq n 0) (some []) none = some (ns.map fun n => Value.int .u8 (.ofNat n)) := hcs
   cases en : Nat.beq n 0 with
   | false => rw [en] at hcs'; cases hcs'
   | true =>
    rw [en] at hcs'
    have hn : n = 0 := Nat.eq_of_beq_eq_true en
    subst hn
    obtain rfl := nil0 hcs' rfl
    obtain ⟨a', c', rfl, ha⟩ := hv.slice_any
    cases a' with
    | none => cases ha
    | some a' => rfl
theorem ext_act {N : Nat} {s s' : St} {w : World} (h : Rel N E s w) {f : FuncId} {fn : Func} (hf : P.funcs[f]? = some fn) (hb : fn.body.isNone = true) (ho : fn.origin = "") {args args' : List Value} {x : Nx} (ha : VRs E args args') (hx : extV P fn args s = .ok x s') :
  ActR N P E s w (callFunc f ⟨args'⟩) x s' := by
 unfold extV at hx
 split at hx
 · -- marks
  cases ha
  cases hn : (fn.name == "internal/race.Disable" || fn.name == "internal/race.Enable") with
  | false => rw [hn] at hx; cases hx
  | true =>
   rw [hn] at hx
   cases hx
   refine .val _ _ E s w (.refl h) .undef ?_
   rcases Bool.or_eq_true_iff.1 hn with e | e
   ·have e := eq_of_beq e
    exact run_call_mark0 hf (goMain e (by decide)) hb (next_none e ho (by kernel_rfl)) .disable (find_some e (by kernel_rfl) (by kernel_rfl) (by kernel_rfl)) w
   ·have e := eq_of_beq e
    exact run_call_mark0 hf (goMain e (by decide)) hb (next_none e ho (by kernel_rfl)) .enable (find_some e (by kernel_rfl) (by kernel_rfl) (by kernel_rfl)) w
 ·obtain ⟨v', rfl, hv⟩ := ha.one_inv
  obtain ⟨_, rfl⟩ := hv.ptr_inv
  cases hn : (fn.name == "internal/race.Acquire" || fn.name == "internal/race.ReleaseMerge") with
  | false => rw [hn] at hx; cases hx
  | true =>
   rw [hn] at hx
   cases hx
   refine .val _ _ E s w (.refl h) .undef ?_
   rcases Bool.or_eq_true_iff.1 hn with e | e
   ·have e := eq_of_beq e
    exact run_call_marked hf (goMain e (by decide)) hb (next_none e ho (by kernel_rfl)) .acquire (find_some e (by kernel_rfl) (by kernel_rfl) (by kernel_rfl)) _ w
   ·have e := eq_of_beq e
    exact run_call_marked hf (goMain e (by decide)) hb (next_none e ho (by kernel_rfl)) .releaseMerge (find_some e (by kernel_rfl) (by kernel_rfl) (by kernel_rfl)) _ w
 ·rename_i b off y
  cases ha with
  | cons _ p _ l' hp hl =>
  obtain ⟨q, rfl, hq⟩ := hl.one_inv
  obtain ⟨_, rfl⟩ := hp.ptr_inv
  obtain rfl := hq.int_inv
  cases hn : (fn.name == "sync/atomic.AddInt32") with
  | false => rw [hn] at hx; cases hx
  | true =>
   rw [hn] at hx
   have e := eq_of_beq hn
   have hx1 : addV P s b off y = .ok x s' := hx
   unfold addV at hx1
   split at hx1
   case h_2 => cases hx1
   rename_i z hz
   unfold addW at hx1
   split at hx1
   case h_2 => cases hx1
   rename_i m hm
   rw [fI_eq] at hx1
   split at hx1
   case h_2 => cases hx1
   rename_i s2 hs2
   cases hx1
   obtain ⟨u, hu, hc⟩ := readAt1_cell h.obs hz
   obtain rfl := hu.int_inv
   obtain ⟨w', k1, k2⟩ := stp_write P h hs2 (.cons _ _ _ _ (.int .i32 m) .nil)
   obtain ⟨k3, rfl⟩ := store_one rfl hc k1
   refine .val _ _ E _ _ k2 (.int .i32 m) ?_
   exact run_call_add hf (goMain e (by decide)) hb (next_none e ho (by kernel_rfl)) .i32 (find_some e (by kernel_rfl) (by kernel_rfl) (by kernel_rfl)) hc k3 (pureRun_run hm w)
 ·rename_i b off y z
  cases ha with
  | cons _ p _ l' hp hl =>
  cases hl with
  | cons _ q _ l'' hq hl2 =>
  obtain ⟨r, rfl, hr⟩ := hl2.one_inv
  obtain ⟨_, rfl⟩ := hp.ptr_inv
  obtain rfl := hq.int_inv
  obtain rfl := hr.int_inv
  cases hn : (fn.name == "sync/atomic.CompareAndSwapInt32") with
  | false => rw [hn] at hx; cases hx
  | true =>
   rw [hn] at hx
   have e := eq_of_beq hn
   have hx1 : casV s b off y z = .ok x s' := hx
   unfold casV at hx1
   split at hx1
   case h_2 => cases hx1
   rename_i m hm
   cases hd : decide (m = y) with
   | false => rw [hd] at hx1; cases hx1
   | true =>
    rw [hd] at hx1
    have hy := of_decide_eq_true hd
    subst hy
    simp only [cond] at hx1
    split at hx1
    case h_2 => cases hx1
    rename_i s2 hs2
    cases hx1
    obtain ⟨u, hu, hc⟩ := readAt1_cell h.obs hm
    obtain rfl := hu.int_inv
    obtain ⟨w', k1, k2⟩ := stp_write P h hs2 (.cons _ _ _ _ (.int .i32 z) .nil)
    obtain ⟨k3, rfl⟩ := store_one rfl hc k1
    refine .val _ _ E _ _ k2 (.bool true) ?_
    exact run_call_cas_hit hf (goMain e (by decide)) hb (next_none e ho (by kernel_rfl)) .i32 (find_some e (by kernel_rfl) (by kernel_rfl) (by kernel_rfl)) hc k3
 ·rename_i q n c q' n' c'
  cases ha with
  | cons _ p _ l' hp hl =>
  obtain ⟨r, rfl, hr⟩ := hl.one_inv
  cases hn : (fn.name == "internal/bytealg.Compare") with
  | false => rw [hn] at hx; cases hx
  | true =>
   rw [hn] at hx
   have e := eq_of_beq hn
   have hx1 : cmpV s (bytesIn s q n c) (bytesIn s q' n' c') = .ok x s' := hx
   unfold cmpV at hx1
   split at hx1
   case h_2 => cases hx1
   rename_i b1 b2 h1 h2
   rw [ofI_eq] at hx1
   cases hx1
   refine .val _ _ E s w (.refl h) (.int .i64 _) ?_
   rw [run_callFunc_extern hf (goMain e (by decide)) hb (next_none e ho (by kernel_rfl)) (find_some (e := Extern.BytealgCompare.compare) e (by kernel_rfl) (by kernel_rfl) (by kernel_rfl))]
   show ((do pure (goInt (Extern.BytealgCompare.cmp (← Extern.Bytes.bytesOf p) (← Extern.Bytes.bytesOf r))) : Sem Value).run P w).andThen _ = _
   simp only [Sem.run_bind, bytesIn_run h.obs hp h1, bytesIn_run h.obs hr h2, Result.andThen_ok, Sem.run_pure]
   rfl
 ·cases hx
end
end Go.Ev
namespace Go.Proofs.YteldpcbhfbgomaaGreatDoor.Dg
open Go.RowKit
def Rounds (w : World) : Prop := ∀ i, i < 64 → w.cell? ⟨1, i, none⟩ = some (.int .u32 (K i))
theorem Rounds.below {w w' : World} (h : Rounds w) {B : Nat} (hb : Below B w w') (hB : 1 < B) : Rounds w' := fun i hi => (hb.cell (p := ⟨1, i, none⟩) hB).trans (h i hi)
structure Mi (w wr : World) (s : W8) (g g6 : Nat) (f : Nat → Nat) (v : Nat → Nat) : Prop where
 below : Below w.heap.size w wr
 low : w.heap.size + 2 ≤ g
 low6 : g < g6
 in_ : wr.rowIs w.heap.size 145 8 (fun i => .int .u32 (w8 s i))
 out : ∃ f', wr.rowIs (w.heap.size + 1) 145 8 f'
 row : wr.rowIs g 157 64 (fun i => .int .u32 (f i))
 var : wr.rowIs g6 145 8 (fun i => .int .u32 (v i))
 rounds : Rounds wr
theorem Mi.drewN {w wr : World} {s : W8} {g g6 : Nat} {f v : Nat → Nat} (h : Mi w wr s g g6 f v) (q : Nat) : Mi w (wr.drewN q) s g g6 f v :=
 ⟨below_drewN h.below q, h.low, h.low6, h.in_.of_block rfl, let ⟨f', hf⟩ := h.out; ⟨f', hf.of_block rfl⟩, h.row.of_block rfl, h.var.of_block rfl, h.rounds⟩
theorem Mi.drew {w wr : World} {s : W8} {g g6 : Nat} {f v : Nat → Nat} (h : Mi w wr s g g6 f v) : Mi w wr.drew s g g6 f v :=
 ⟨h.below.drew, h.low, h.low6, h.in_.drew, let ⟨f', hf⟩ := h.out; ⟨f', hf.drew⟩, h.row.drew, h.var.drew, h.rounds⟩
theorem Mi.other {w wr w' : World} {s : W8} {g g6 : Nat} {f v v' : Nat → Nat} (h : Mi w wr s g g6 f v) (hw : 1 < w.heap.size) (ho : ∀ k, k ≠ g6 → w'.heap[k]? = wr.heap[k]?) (hb : Below g6 wr w') (hv : w'.rowIs g6 145 8 (fun i => .int .u32 (v' i))) : Mi w w' s g g6 f v' := by
 have l := h.low
 have l6 := h.low6
 have b : Below w.heap.size w w' := h.below.trans (hb.mono (by omega))
 exact ⟨b, h.low, h.low6, h.in_.of_block (ho _ (by omega)), let ⟨f', hf⟩ := h.out; ⟨f', hf.of_block (ho _ (by omega))⟩, h.row.of_block (ho _ (by omega)), hv, h.rounds.below hb (by omega)⟩
theorem Mi.setVar {w wr : World} {s : W8} {g g6 : Nat} {f v : Nat → Nat} (h : Mi w wr s g g6 f v) (hw : 1 < w.heap.size) (i x : Nat) : Mi w (wr.setCell ⟨g6, i, none⟩ (.int .u32 x)) s g g6 f (fun j => if j = i then x else v j) :=
 h.other hw (fun k hk => Below.heap_setCell _ _ _ _ hk) ((Below.refl g6 wr).setCell (p := ⟨g6, i, none⟩) (Nat.le_refl _) _) ((h.var.set i _).congr (fun j _ => by split <;> rfl))
theorem Mi.setAll {w wr : World} {s : W8} {g g6 : Nat} {f v v' : Nat → Nat} (h : Mi w wr s g g6 f v) (hw : 1 < w.heap.size) (cs : Array Value) (hs : cs.size = 8) (hc : ∀ i, i < 8 → cs[i]? = some (.int .u32 (v' i))) : Mi w (wr.setRow g6 cs) s g g6 f v' := by
 obtain ⟨os, og, _, _⟩ := h.var
 exact h.other hw (fun k hk => setRow_other _ _ _ _ hk) (below_setRow (Below.refl _ _) (Nat.le_refl _) _) (rowIs_setRow og hs hc)
theorem Mi.congr {w wr : World} {s : W8} {g g6 : Nat} {f v v' : Nat → Nat} (h : Mi w wr s g g6 f v) (e : ∀ i, i < 8 → v i = v' i) : Mi w wr s g g6 f v' :=
 ⟨h.below, h.low, h.low6, h.in_, h.out, h.row, h.var.congr (fun i hi => by rw [e i hi]), h.rounds⟩
def Z8 : Array Value := #[.int .u32 0, .int .u32 0, .int .u32 0, .int .u32 0, .int .u32 0, .int .u32 0, .int .u32 0, .int .u32 0]
theorem arr8_info (s : W8) : (Tryz.prog.info? 145).map (·.size) = some (arr8 s).size := info51
theorem arr8_one (s : W8) : (arr8 s).all (·.oneCell') = true := all_one (fun i hi => ⟨_, _, arr8_cell s i hi⟩)
theorem mi_start {w w2 : World} {s : W8} {cs : Array Value} {f : Nat → Nat} (hsz : cs.size = 64) (hcs : ∀ i, i < 64 → cs[i]? = some (.int .u32 (f i)))
  (hb : Below ((w.alloc (.cells (arr8 s) 145)).alloc (.cells Z8 145)).heap.size ((w.alloc (.cells (arr8 s) 145)).alloc (.cells Z8 145)) w2)
  (hK : Rounds w) (hw : 1 < w.heap.size) : Mi w ((((w2.alloc (.cells Z64 157)).setRow w2.heap.size cs).alloc (.cells Z8 145)).setRow (w2.heap.size + 1) (arr8 s)) s w2.heap.size (w2.heap.size + 1) f (w8 s) ∧
   (w2.alloc (.cells Z64 157) |>.setRow w2.heap.size cs).heap[w.heap.size]? = some (.cells (arr8 s) 145 (0, 0)) ∧ (((w2.alloc (.cells Z64 157)).setRow w2.heap.size cs).alloc (.cells Z8 145)).heap[w2.heap.size + 1]? = some (.cells Z8 145 (0, 0)) := by
 have hs := hb.size
 simp only [World.size_alloc] at hs hb
 have b0 : Below w.heap.size w w2 := (((Below.refl _ _).alloc (Nat.le_refl _) _).alloc (by simp) _).trans (hb.mono (by omega))
 have n1 : (((w2.alloc (.cells Z64 157)).setRow w2.heap.size cs).alloc (.cells Z8 145)).heap[w2.heap.size + 1]? = some (.cells Z8 145 (0, 0)) := by
  have e := heap_alloc_new ((w2.alloc (.cells Z64 157)).setRow w2.heap.size cs) (.cells Z8 145)
  have z : ((w2.alloc (.cells Z64 157)).setRow w2.heap.size cs).heap.size = w2.heap.size + 1 := by simp
  rwa [z] at e
 have oth1 : ∀ i, i < w2.heap.size → ((w2.alloc (.cells Z64 157)).setRow w2.heap.size cs).heap[i]? = w2.heap[i]? := fun i hi => by
  rw [setRow_other _ _ _ _ (by omega), heap_alloc_old _ _ hi]
 have oth : ∀ i, i < w2.heap.size → ((((w2.alloc (.cells Z64 157)).setRow w2.heap.size cs).alloc (.cells Z8 145)).setRow (w2.heap.size + 1) (arr8 s)).heap[i]? = w2.heap[i]? := fun i hi => by
  rw [setRow_other _ _ _ _ (by omega), heap_alloc_old _ _ (by simp; omega), oth1 i hi]
 have b1 : Below w.heap.size w ((((w2.alloc (.cells Z64 157)).setRow w2.heap.size cs).alloc (.cells Z8 145)).setRow (w2.heap.size + 1) (arr8 s)) :=
  below_setRow ((below_setRow (b0.alloc (by omega) _) (by omega) _).alloc (by simp; omega) _) (by omega) _
 have in0 : w2.heap[w.heap.size]? = some (.cells (arr8 s) 145 (0, 0)) := by
  rw [hb.block _ (by omega), heap_alloc_old _ _ (by simp), heap_alloc_new]
 refine ⟨⟨b1, by omega, by omega, ?_, ?_, ?_, rowIs_setRow n1 rfl (fun i hi => arr8_cell s i hi), hK.below b1 hw⟩, (oth1 _ (by omega)).trans in0, n1⟩
 ·exact ⟨arr8 s, (oth _ (by omega)).trans in0, rfl, fun i hi => arr8_cell s i hi⟩
 ·have r : ((w.alloc (.cells (arr8 s) 145)).alloc (.cells Z8 145)).rowIs (w.heap.size + 1) 145 8 (fun _ => .int .u32 0) := by
   have e := zeros_row (w.alloc (.cells (arr8 s) 145)) (.int .u32 0) 8 145
   rw [World.size_alloc] at e
   exact e
  exact ⟨_, (r.of_block (hb.block _ (by omega))).of_block (oth _ (by omega))⟩
 ·have e : ((w2.alloc (.cells Z64 157)).setRow w2.heap.size cs).rowIs w2.heap.size 157 64 (fun i => .int .u32 (f i)) := rowIs_setRow (heap_alloc_new _ _) hsz hcs
  refine (e.alloc (.cells Z8 145)).of_block (setRow_other _ _ _ _ (by omega))
def msum (t s : W8) (k i : Nat) : Nat := if i < k then (w8 t i + w8 s i) % M else w8 t i
theorem msum_next (t s : W8) (k i : Nat) : (if i = k then (w8 t k + w8 s k) % M else msum t s k i) = msum t s (k + 1) i := by
 unfold msum
 by_cases e : i = k
 ·subst e
  rw [if_pos rfl, if_pos (by omega)]
 ·rw [if_neg e]
  by_cases l : i < k
  ·rw [if_pos l, if_pos (by omega)]
  ·rw [if_neg l, if_neg (by omega)]
theorem msum_end (t s : W8) (i : Nat) (hi : i < 8) : msum t s 8 i = w8 (plus s t) i := by
 unfold msum
 rw [if_pos hi, Nat.add_comm]
 match i, hi with
 | 0, _ => rfl
 | 1, _ => rfl
 | 2, _ => rfl
 | 3, _ => rfl
 | 4, _ => rfl
 | 5, _ => rfl
 | 6, _ => rfl
 | 7, _ => rfl
def T8 (x y : Int) (t : W8) : Array Value := #[.int .u32 x, .int .u32 t.a, .int .u32 t.b, .int .u32 t.c, .int .u32 y, .int .u32 t.e, .int .u32 t.f, .int .u32 t.g]
theorem T8_one (x y : Int) (t : W8) : (T8 x y t).all (·.oneCell') = true := all_one (fun i hi => by
 have h8 : i < 8 := hi
 match i, h8 with
 | 0, _ => exact ⟨_, _, rfl⟩
 | 1, _ => exact ⟨_, _, rfl⟩
 | 2, _ => exact ⟨_, _, rfl⟩
 | 3, _ => exact ⟨_, _, rfl⟩
 | 4, _ => exact ⟨_, _, rfl⟩
 | 5, _ => exact ⟨_, _, rfl⟩
 | 6, _ => exact ⟨_, _, rfl⟩
 | 7, _ => exact ⟨_, _, rfl⟩)
set_option maxRecDepth 100000 in
set_option maxHeartbeats 8000000 in
theorem mixed_any (w : World) (s : W8) (hs : Ok8 s) (a : Option Addr) (b off c : Nat) (B : Nat → Nat) (h : View w a b off 64 (fun i => (B i : Int))) (hB : ∀ i, B i < 256) (hK : Rounds w) (hw : 1 < w.heap.size) :
  Calls Tryz.prog 95 #[.agg (arr8 s), .slice a 64 c] w fun e w' => e = .returned (.agg (arr8 (fold1 s B))) ∧ Below w.heap.size w w' := by
 go_enter Tryz.func95, Tryz.ntmps95
 go_wp2_with fail
 refine (rwords_any _ a b off c B (h.below (((Below.refl _ _).alloc (Nat.le_refl _) _).alloc (by simp) _)) hB).mono ?_
 rintro _ w2 ⟨⟨cs, rfl, hsz, hcs⟩, hb2⟩
 have hi : (Tryz.prog.info? 157).map (·.size) = some cs.size := by rw [hsz]; exact info62
 have h1 : cs.all (·.oneCell') = true := all_one (fun i hi => ⟨_, _, hcs i (by omega)⟩)
 have F := mi_start hsz hcs hb2 hK hw
 have n0 := F.2.1
 have n1 := F.2.2
 have HF : Hid (Mi w ((((w2.alloc (.cells Z64 157)).setRow w2.heap.size cs).alloc (.cells Z8 145)).setRow (w2.heap.size + 1) (arr8 s)) s w2.heap.size (w2.heap.size + 1) (sched B) (w8 s)) := F.1
 clear F
 go_wp2_with (first
  | refine wpList_store_row (by rfl) 157 (.tmp 5) (.tmp 14) (by rfl) w2.heap.size cs (by rfl) (by rfl) 157 Z64 (heap_alloc_new _ _) hi hsz.symm h1 ?_
  | refine wpList_load_row (by rfl) 145 (.tmp 2) (by rfl) w.heap.size (by rfl) 145 (arr8 s) (0, 0) _ n0 Tryz.underlying145 rfl (arr8_info s) ?_
  | refine wpList_store_row (by rfl) 145 (.tmp 6) (.tmp 15) (by rfl) (w2.heap.size + 1) (arr8 s) (by rfl) (by rfl) 145 Z8 n1 (arr8_info s) rfl (arr8_one s) ?_)
 clear n0 n1 h1 hi
 go_loopg [7] 64 (fun g i wr => ∃ k : Nat, k ≤ 64 ∧ g = 64 - k ∧ i = .int .i64 k ∧ Mi w wr s w2.heap.size (w2.heap.size + 1) (sched B) (w8 (turns K (sched B) s k)))
 case atStart => exact ⟨0, by omega, rfl, rfl, HF.out⟩
 case round =>
  obtain ⟨k, hk, rfl, rfl, hR⟩ := hrel
  clear HF
  by_cases hkn : k < 64
  ·have T := turns_ok hs K (sched B) k
   have cK := hR.rounds k hkn
   have cW := hR.row.cell hkn
   have lK := K_lt k hkn
   have lW := sched_lt hB k
   obtain ⟨t, ht⟩ : ∃ t, t = turns K (sched B) s k := ⟨_, rfl⟩
   have Ht : Hid (turns K (sched B) s (k + 1) = turn1 t (K k) (sched B k)) := by rw [ht]; rfl
   rw [← ht] at T hR
   clear ht
   obtain ⟨x1, e1⟩ : ∃ x, x = K k := ⟨_, rfl⟩
   obtain ⟨x2, e2⟩ : ∃ x, x = sched B k := ⟨_, rfl⟩
   rw [← e1] at cK lK Ht
   rw [← e2] at cW lW Ht
   have HX : Hid (x1 = K k ∧ x2 = sched B k) := ⟨e1, e2⟩
   clear e1 e2
   obtain ⟨ta, tb, tc, td, te, tf, tg, th⟩ := t
   obtain ⟨la, lb, lc, ld, le, lf, lg, lh⟩ := T
   have c0 := hR.var.cell (i := 0) (by omega)
   have c1 := hR.var.cell (i := 1) (by omega)
   have c2 := hR.var.cell (i := 2) (by omega)
   have c3 := hR.var.cell (i := 3) (by omega)
   have c4 := hR.var.cell (i := 4) (by omega)
   have c5 := hR.var.cell (i := 5) (by omega)
   have c6 := hR.var.cell (i := 6) (by omega)
   have c7 := hR.var.cell (i := 7) (by omega)
   simp only [w8] at c0 c1 c2 c3 c4 c5 c6 c7 la lb lc ld le lf lg lh
   have HR : Hid (Mi w wr s w2.heap.size (w2.heap.size + 1) (sched B) (w8 ⟨ta, tb, tc, td, te, tf, tg, th⟩)) := hR
   clear hR
   go_wp2_with fail
   refine wp_region_quiet_lit (by kernel_rfl) (by kernel_rfl) ?_
   repeat (go_big_quiet_step (fail))
   go_big_quiet_step (first | (go_at_call 105; refine Calls.quiet_of (turned_any _ te 6 le (by omega) (by omega))))
   repeat (go_big_quiet_step (fail))
   go_big_quiet_step (first | (go_at_call 105; refine Calls.quiet_of (turned_any _ te 11 le (by omega) (by omega))))
   repeat (go_big_quiet_step (fail))
   go_big_quiet_step (first | (go_at_call 105; refine Calls.quiet_of (turned_any _ te 25 le (by omega) (by omega))))
   repeat (go_big_quiet_step (fail))
   refine wpQuiet_nil ?_
   intro wz hwz
   obtain ⟨nq, rfl⟩ := hwz
   have HQ : Hid (Mi w (wr.drewN nq) s w2.heap.size (w2.heap.size + 1) (sched B) (w8 ⟨ta, tb, tc, td, te, tf, tg, th⟩)) := HR.out.drewN nq
   clear HR cK cW c0 c1 c2 c3 c4 c5 c6 c7
   have V : ((((th : Int) + bits .xor .u32 (bits .xor .u32 ((rot te 6 : Nat) : Int) ((rot te 11 : Nat) : Int)) ((rot te 25 : Nat) : Int) + bits .xor .u32 (bits .and .u32 (te : Int) (tf : Int)) (bits .and .u32 (bits .xor .u32 (if IntKind.u32.signed = true then -1 else IntKind.u32.max) (te : Int)) (tg : Int)) + (x1 : Int)) % 4294967296 + (x2 : Int)) % 4294967296) = ((t1 ⟨ta, tb, tc, td, te, tf, tg, th⟩ x1 x2 : Nat) : Int) := by
    rw [big1_spelt le, pick_spelt le lf lg]
    simp only [t1, M]
    omega
   rw [V]
   have l1 : t1 ⟨ta, tb, tc, td, te, tf, tg, th⟩ x1 x2 < 4294967296 := Nat.mod_lt _ (by decide)
   obtain ⟨y1, hy1⟩ : ∃ y, y = t1 ⟨ta, tb, tc, td, te, tf, tg, th⟩ x1 x2 := ⟨_, rfl⟩
   have Hy : Hid (t1 ⟨ta, tb, tc, td, te, tf, tg, th⟩ x1 x2 = y1) := hy1.symm
   rw [← hy1] at l1 ⊢
   clear hy1 V
   obtain ⟨wq, hwq⟩ : ∃ x, x = wr.drewN nq := ⟨_, rfl⟩
   rw [← hwq] at HQ ⊢
   clear hwq
   have c0 := HQ.out.var.cell (i := 0) (by omega)
   have c1 := HQ.out.var.cell (i := 1) (by omega)
   have c2 := HQ.out.var.cell (i := 2) (by omega)
   have c3 := HQ.out.var.cell (i := 3) (by omega)
   have c4 := HQ.out.var.cell (i := 4) (by omega)
   have c5 := HQ.out.var.cell (i := 5) (by omega)
   have c6 := HQ.out.var.cell (i := 6) (by omega)
   have c7 := HQ.out.var.cell (i := 7) (by omega)
   simp only [w8] at c0 c1 c2 c3 c4 c5 c6 c7
   go_wp2_with fail
   refine wp_region_quiet_lit (by kernel_rfl) (by kernel_rfl) ?_
   repeat (go_big_quiet_step (fail))
   go_big_quiet_step (first | (go_at_call 105; refine Calls.quiet_of (turned_any _ ta 2 la (by omega) (by omega))))
   repeat (go_big_quiet_step (fail))
   go_big_quiet_step (first | (go_at_call 105; refine Calls.quiet_of (turned_any _ ta 13 la (by omega) (by omega))))
   repeat (go_big_quiet_step (fail))
   go_big_quiet_step (first | (go_at_call 105; refine Calls.quiet_of (turned_any _ ta 22 la (by omega) (by omega))))
   repeat (go_big_quiet_step (fail))
   refine wpQuiet_nil ?_
   intro wz hwz
   obtain ⟨nq, rfl⟩ := hwz
   have HP : Hid (Mi w (wq.drewN nq) s w2.heap.size (w2.heap.size + 1) (sched B) (w8 ⟨ta, tb, tc, td, te, tf, tg, th⟩)) := HQ.out.drewN nq
   clear HQ c0 c1 c2 c3 c4 c5 c6 c7
   have V2 : ((bits .xor .u32 (bits .xor .u32 ((rot ta 2 : Nat) : Int) ((rot ta 13 : Nat) : Int)) ((rot ta 22 : Nat) : Int) + bits .xor .u32 (bits .xor .u32 (bits .and .u32 (ta : Int) (tb : Int)) (bits .and .u32 (ta : Int) (tc : Int))) (bits .and .u32 (tb : Int) (tc : Int))) % 4294967296) = ((t2 ⟨ta, tb, tc, td, te, tf, tg, th⟩ : Nat) : Int) := by
    rw [big0_spelt la, most_spelt la lb lc]
    simp only [t2, M]
    omega
   rw [V2]
   have l2 : t2 ⟨ta, tb, tc, td, te, tf, tg, th⟩ < 4294967296 := Nat.mod_lt _ (by decide)
   obtain ⟨y2, hy2⟩ : ∃ y, y = t2 ⟨ta, tb, tc, td, te, tf, tg, th⟩ := ⟨_, rfl⟩
   have Hy2 : Hid (t2 ⟨ta, tb, tc, td, te, tf, tg, th⟩ = y2) := hy2.symm
   rw [← hy2] at l2 ⊢
   clear hy2 V2
   obtain ⟨wp, hwp⟩ : ∃ x, x = wq.drewN nq := ⟨_, rfl⟩
   rw [← hwp] at HP ⊢
   clear hwp
   have c0 := HP.out.var.cell (i := 0) (by omega)
   have c1 := HP.out.var.cell (i := 1) (by omega)
   have c2 := HP.out.var.cell (i := 2) (by omega)
   have c3 := HP.out.var.cell (i := 3) (by omega)
   have c4 := HP.out.var.cell (i := 4) (by omega)
   have c5 := HP.out.var.cell (i := 5) (by omega)
   have c6 := HP.out.var.cell (i := 6) (by omega)
   have c7 := HP.out.var.cell (i := 7) (by omega)
   simp only [w8] at c0 c1 c2 c3 c4 c5 c6 c7
   obtain ⟨os, og, osz, _⟩ := HP.out.var
   have HN : Hid (Mi w (wp.setRow (w2.heap.size + 1) (T8 (((y1 : Int) + (y2 : Int)) % 4294967296) (((td : Int) + (y1 : Int)) % 4294967296) ⟨ta, tb, tc, td, te, tf, tg, th⟩)) s w2.heap.size (w2.heap.size + 1) (sched B) (w8 (turns K (sched B) s (k + 1)))) := by
    refine HP.out.setAll hw _ rfl (fun i hi => ?_)
    rw [Ht.out]
    unfold turn1
    rw [Hy.out, Hy2.out]
    have v1 : ((y1 : Int) + (y2 : Int)) % 4294967296 = (((y1 + y2) % M : Nat) : Int) := by simp only [M]; omega
    have v2 : ((td : Int) + (y1 : Int)) % 4294967296 = (((td + y1) % M : Nat) : Int) := by simp only [M]; omega
    rw [v1, v2]
    match i, hi with
    | 0, _ => rfl
    | 1, _ => rfl
    | 2, _ => rfl
    | 3, _ => rfl
    | 4, _ => rfl
    | 5, _ => rfl
    | 6, _ => rfl
    | 7, _ => rfl
   have one : (T8 (((y1 : Int) + (y2 : Int)) % 4294967296) (((td : Int) + (y1 : Int)) % 4294967296) ⟨ta, tb, tc, td, te, tf, tg, th⟩).all (·.oneCell') = true := T8_one _ _ _
   clear HP
   go_wp2_with (refine wpList_store_row (by rfl) 145 (.tmp 6) (.tmp 97) (by rfl) (w2.heap.size + 1) (T8 (((y1 : Int) + (y2 : Int)) % 4294967296) (((td : Int) + (y1 : Int)) % 4294967296) ⟨ta, tb, tc, td, te, tf, tg, th⟩) (by rfl) (by rfl) 145 os og info51 osz one ?_)
   clear c0 c1 c2 c3 c4 c5 c6 c7 og osz one
   go_roundg (64 - (k + 1))
   case measure => omega
   case rel => exact ⟨k + 1, by omega, rfl, by go_num, HN.out⟩
  ·have : k = 64 := by omega
   subst this
   obtain ⟨t, ht⟩ : ∃ t, t = turns K (sched B) s 64 := ⟨_, rfl⟩
   have T := turns_ok hs K (sched B) 64
   have Hf : Hid (fold1 s B = plus s t) := by rw [ht]; rfl
   rw [← ht] at T hR
   clear ht
   have HR : Hid (Mi w wr s w2.heap.size (w2.heap.size + 1) (sched B) (w8 t)) := hR
   clear hR
   go_wp2_with fail
   go_loopg [12] 8 (fun g i wr => ∃ k : Nat, k ≤ 8 ∧ g = 8 - k ∧ i = .int .i64 k ∧ Mi w wr s w2.heap.size (w2.heap.size + 1) (sched B) (msum t s k))
   case atStart => exact ⟨0, by omega, rfl, rfl, HR.out.congr (fun i _ => by simp [msum])⟩
   case round =>
    obtain ⟨k, hk, rfl, rfl, hR⟩ := hrel
    clear HR
    by_cases hkn : k < 8
    ·have cv := hR.var.cell hkn
     have cs' := hR.in_.cell hkn
     have fz := hR.var.frozen k
     have e0 : msum t s k k = w8 t k := by unfold msum; rw [if_neg (by omega)]
     rw [e0] at cv
     have lt := w8_lt T k
     have ls := w8_lt hs k
     obtain ⟨x, hx⟩ : ∃ x, x = w8 t k := ⟨_, rfl⟩
     obtain ⟨y, hy⟩ : ∃ y, y = w8 s k := ⟨_, rfl⟩
     rw [← hx] at cv lt
     rw [← hy] at cs' ls
     have HV : Hid (x = w8 t k ∧ y = w8 s k) := ⟨hx, hy⟩
     have HR : Hid (Mi w wr s w2.heap.size (w2.heap.size + 1) (sched B) (msum t s k)) := hR
     clear hR hx hy e0
     go_wp2_with fail
     go_region
     go_wp2
     have V : ((x : Int) + (y : Int)) % 4294967296 = (((w8 t k + w8 s k) % M : Nat) : Int) := by
      rw [← HV.out.1, ← HV.out.2]
      simp only [M]
      omega
     rw [V]
     clear cv cs' fz V
     go_roundg (8 - (k + 1))
     case measure => omega
     case rel => exact ⟨k + 1, by omega, rfl, by go_num, ((HR.out.setVar hw k _).drew).congr (fun i _ => msum_next t s k i)⟩
    ·have : k = 8 := by omega
     subst this
     have HR : Hid (Mi w wr s w2.heap.size (w2.heap.size + 1) (sched B) (w8 (plus s t))) := hR.congr (fun i hi => msum_end t s i hi)
     clear hR
     obtain ⟨f', hf'⟩ := HR.out.out
     obtain ⟨os, og, osz, _⟩ := hf'
     have hc : ∀ j, j < (arr8 (plus s t)).size → wr.cell? ⟨w2.heap.size + 1, j, none⟩ = (arr8 (plus s t))[j]? := fun j hj => (HR.out.var.cell hj).trans (arr8_cell (plus s t) j hj).symm
     go_wp2_with (first
      | refine wpList_load_cells (by rfl) 145 (.tmp 6) (by rfl) (w2.heap.size + 1) (by rfl) (arr8 (plus s t)) _ hc Tryz.underlying145 rfl (arr8_info _) ?_
      | refine wpList_store_row (by rfl) 145 (.tmp 4) (.tmp 111) (by rfl) (w.heap.size + 1) (arr8 (plus s t)) (by rfl) (by rfl) 145 os og (arr8_info _) osz (arr8_one _) ?_)
     refine bodyPost_ret (v := .agg (arr8 (plus s t))) ?_ rfl ?_
     ·exact results_cell_row rfl _ _ (w.heap.size + 1) 145 (arr8 (plus s t)) (0, 0) _ rfl (setRow_heap _ _ _ _ _ _ og) Tryz.underlying145 rfl (arr8_info _)
     ·exact ⟨by rw [Hf.out], below_setRow HR.out.below (by omega) _⟩
end Go.Proofs.YteldpcbhfbgomaaGreatDoor.Dg
