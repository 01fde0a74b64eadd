import Derived.Test.YtcnhinnpieehoaaGreatDoorF6zz
import Derived.Laws.LoneSync
import Derived.KernelRfl
import Derived.Test.YtcnhinnpieehoaaGreatDoorNLfczz
namespace Go.Ev
open Go
section
variable {P : Program} {E : En}
theorem store_one {w w' : World} {g o : Nat} {u v : Value} (hv : v.oneCell' = true) (hc : w.cell? ⟨g, o, none⟩ = some u) (h : (storeCells ⟨g, o, none⟩ [v]).run P w = .ok () w') : w.frozen? ⟨g, o, none⟩ = false ∧ w' = w.setCell ⟨g, o, none⟩ v := by
 simp only [storeCells, add_eq, Nat.add_zero, Sem.run_bind] at h
 rw [run_store P w _ v _ hv, hc] at h
 cases hz : w.frozen? ⟨g, o, none⟩ with
 | true => rw [hz] at h; simp [Result.andThen] at h
 | false =>
  rw [hz] at h
  simp at h
  exact ⟨rfl, h.symm⟩
theorem next_none {fn : Func} {n : String} (hn : fn.name = n) (ho : fn.origin = "") (h : Extern.allNextRows.lookup n = none) : Extern.findNext fn = none := by
 unfold Extern.findNext
 simp only [hn, ho, h, show Extern.allNextRows.lookup "" = none by kernel_rfl]
 rfl
theorem find_some {fn : Func} {n : String} {e : Array Value → Sem Value} (hn : fn.name = n) (h1 : Extern.allGenericRows.lookup n = none) (h2 : Extern.allTypedRows.lookup n = none) (h3 : Extern.allRows.lookup n = some e) : Extern.find fn = some e := by
 unfold Extern.find
 simp only [hn, h1, h2, h3]
 rfl
theorem goMain {fn : Func} {n : String} (hn : fn.name = n) (h : (n == "runtime.NumGoroutine") = false) : (fn.name == "runtime.NumGoroutine") = false := by rw [hn]; exact h
theorem bytesOf_run {w : World} : ∀ (ns : List Nat) (g o : Nat) (acc : ByteArray), (∀ (j : Nat) (n : Nat), ns[j]? = some n → w.cell? ⟨g, o + j, none⟩ = some (.int .u8 (.ofNat n))) →
  (Extern.Bytes.loadBytes ⟨g, o, none⟩ ns.length acc).run P w = .ok ⟨⟨acc.data.toList ++ ns.map UInt8.ofNat⟩⟩ w
 | [], g, o, acc, _ => by simp [Extern.Bytes.loadBytes]
 | n :: ns, g, o, acc, h => by
  have h0 := h 0 n rfl
  rw [Nat.add_zero] at h0
  have ih := bytesOf_run ns g (o + 1) (acc.push (UInt8.ofNat n)) (fun j m hj => by
   rw [show o + 1 + j = o + (j + 1) by omega]; exact h (j + 1) m hj)
  simp only [List.length_cons, Extern.Bytes.loadBytes, Sem.run_bind, run_load, h0, Result.andThen_ok]
  rw [add_eq]
  have e : (Int.ofNat n).toNat.toUInt8 = UInt8.ofNat n := rfl
  rw [e, ih]
  simp [ByteArray.push]
theorem bytesIn_run {s : St} {w : World} (h : Obs E s w) {q : Option Addr} {n c : Nat} {v' : Value} {bs : List UInt8} (hv : VR E (.slice q n c) v') (hb : bytesIn s q n c = some bs) : (Extern.Bytes.bytesOf v').run P w = .ok ⟨⟨bs⟩⟩ w := by
 unfold bytesIn at hb
 split at hb
 case h_2 => cases hb
 rename_i cs hcs
 obtain ⟨ns, rfl, rfl⟩ := bytesOf_some hb
 have nil0 : ∀ {l : List Value}, some l = some (ns.map fun n => Value.int .u8 (.ofNat n)) → l = [] → ns = [] := by
  intro l e1 e2
  subst e2
  have := Option.some.inj e1
  cases ns with
  | nil => rfl
  | cons a b => cases this
 cases q with
 | none =>
  have hcs' : cond (Nat.beq n 0) (some []) none = some (ns.map fun n => Value.int .u8 (.ofNat n)) := hcs
  cases en : Nat.beq n 0 with
  | false => rw [en] at hcs'; cases hcs'
  | true =>
   rw [en] at hcs'
   obtain rfl := nil0 hcs' rfl
   obtain rfl := plain_eq 1 _ _ rfl hv
   rfl
 | some a =>
  obtain ⟨b, off, sp⟩ := a
  cases sp with
  | none =>
   obtain ⟨_, c', rfl, _⟩ := hv.sl_inv
   have hr : readAt s b off (Nat.mul n 1) = some (ns.map fun n => Value.int .u8 (.ofNat n)) := hcs
   have hl : ns.length = n := by
    have := readAt_len hr
    rw [List.length_map] at this
    rw [this]; exact Nat.mul_one n
   obtain ⟨r', k1, k2⟩ := readAt_cell P h hr
   have e := k1.ints_eq
   subst e
   have := bytesOf_run (P := P) (w := w) ns (E.ι b) (E.sh b + off) .empty (fun j m hj => k2 j _ (by rw [List.getElem?_map, hj]; rfl))
   rw [hl] at this
   exact this
  | some z =>
   have hcs' : cond (Nat.beq n 0) (some []) none = some (ns.map fun n => Value.int .u8 (.ofNat n)) := hcs
   cases en : Nat.beq n 0 with
   | false => rw [en] at hcs'; cases hcs'
   | true =>
    rw [en] at hcs'
    have hn : n = 0 := Nat.eq_of_beq_eq_true en
    subst hn
    obtain rfl := nil0 hcs' rfl
    obtain ⟨a', c', rfl, ha⟩ := hv.slice_any
    cases a' with
    | none => cases ha
    | some a' => rfl
theorem ext_act {N : Nat} {s s' : St} {w : World} (h : Rel N E s w) {f : FuncId} {fn : Func} (hf : P.funcs[f]? = some fn) (hb : fn.body.isNone = true) (ho : fn.origin = "") {args args' : List Value} {x : Nx} (ha : VRs E args args') (hx : extV P fn args s = .ok x s') :
  ActR N P E s w (callFunc f ⟨args'⟩) x s' := by
 unfold extV at hx
 split at hx
 · -- marks
  cases ha
  cases hn : (fn.name == "internal/race.Disable" || fn.name == "internal/race.Enable") with
  | false => rw [hn] at hx; cases hx
  | true =>
   rw [hn] at hx
   cases hx
   refine .val _ _ E s w (.refl h) .undef ?_
   rcases Bool.or_eq_true_iff.1 hn with e | e
   ·have e := eq_of_beq e
    exact run_call_mark0 hf (goMain e (by decide)) hb (next_none e ho (by kernel_rfl)) .disable (find_some e (by kernel_rfl) (by kernel_rfl) (by kernel_rfl)) w
   ·have e := eq_of_beq e
    exact run_call_mark0 hf (goMain e (by decide)) hb (next_none e ho (by kernel_rfl)) .enable (find_some e (by kernel_rfl) (by kernel_rfl) (by kernel_rfl)) w
 ·obtain ⟨v', rfl, hv⟩ := ha.one_inv
  obtain ⟨_, rfl⟩ := hv.ptr_inv
  cases hn : (fn.name == "internal/race.Acquire" || fn.name == "internal/race.ReleaseMerge") with
  | false => rw [hn] at hx; cases hx
  | true =>
   rw [hn] at hx
   cases hx
   refine .val _ _ E s w (.refl h) .undef ?_
   rcases Bool.or_eq_true_iff.1 hn with e | e
   ·have e := eq_of_beq e
    exact run_call_marked hf (goMain e (by decide)) hb (next_none e ho (by kernel_rfl)) .acquire (find_some e (by kernel_rfl) (by kernel_rfl) (by kernel_rfl)) _ w
   ·have e := eq_of_beq e
    exact run_call_marked hf (goMain e (by decide)) hb (next_none e ho (by kernel_rfl)) .releaseMerge (find_some e (by kernel_rfl) (by kernel_rfl) (by kernel_rfl)) _ w
 ·rename_i b off y
  cases ha with
  | cons _ p _ l' hp hl =>
  obtain ⟨q, rfl, hq⟩ := hl.one_inv
  obtain ⟨_, rfl⟩ := hp.ptr_inv
  obtain rfl := hq.int_inv
  cases hn : (fn.name == "sync/atomic.AddInt32") with
  | false => rw [hn] at hx; cases hx
  | true =>
   rw [hn] at hx
   have e := eq_of_beq hn
   have hx1 : addV P s b off y = .ok x s' := hx
   unfold addV at hx1
   split at hx1
   case h_2 => cases hx1
   rename_i z hz
   unfold addW at hx1
   split at hx1
   case h_2 => cases hx1
   rename_i m hm
   rw [fI_eq] at hx1
   split at hx1
   case h_2 => cases hx1
   rename_i s2 hs2
   cases hx1
   obtain ⟨u, hu, hc⟩ := readAt1_cell h.obs hz
   obtain rfl := hu.int_inv
   obtain ⟨w', k1, k2⟩ := stp_write P h hs2 (.cons _ _ _ _ (.int .i32 m) .nil)
   obtain ⟨k3, rfl⟩ := store_one rfl hc k1
   refine .val _ _ E _ _ k2 (.int .i32 m) ?_
   exact run_call_add hf (goMain e (by decide)) hb (next_none e ho (by kernel_rfl)) .i32 (find_some e (by kernel_rfl) (by kernel_rfl) (by kernel_rfl)) hc k3 (pureRun_run hm w)
 ·rename_i b off y z
  cases ha with
  | cons _ p _ l' hp hl =>
  cases hl with
  | cons _ q _ l'' hq hl2 =>
  obtain ⟨r, rfl, hr⟩ := hl2.one_inv
  obtain ⟨_, rfl⟩ := hp.ptr_inv
  obtain rfl := hq.int_inv
  obtain rfl := hr.int_inv
  cases hn : (fn.name == "sync/atomic.CompareAndSwapInt32") with
  | false => rw [hn] at hx; cases hx
  | true =>
   rw [hn] at hx
   have e := eq_of_beq hn
   have hx1 : casV s b off y z = .ok x s' := hx
   unfold casV at hx1
   split at hx1
   case h_2 => cases hx1
   rename_i m hm
   cases hd : decide (m = y) with
   | false => rw [hd] at hx1; cases hx1
   | true =>
    rw [hd] at hx1
    have hy := of_decide_eq_true hd
    subst hy
    simp only [cond] at hx1
    split at hx1
    case h_2 => cases hx1
    rename_i s2 hs2
    cases hx1
    obtain ⟨u, hu, hc⟩ := readAt1_cell h.obs hm
    obtain rfl := hu.int_inv
    obtain ⟨w', k1, k2⟩ := stp_write P h hs2 (.cons _ _ _ _ (.int .i32 z) .nil)
    obtain ⟨k3, rfl⟩ := store_one rfl hc k1
    refine .val _ _ E _ _ k2 (.bool true) ?_
    exact run_call_cas_hit hf (goMain e (by decide)) hb (next_none e ho (by kernel_rfl)) .i32 (find_some e (by kernel_rfl) (by kernel_rfl) (by kernel_rfl)) hc k3
 ·rename_i q n c q' n' c'
  cases ha with
  | cons _ p _ l' hp hl =>
  obtain ⟨r, rfl, hr⟩ := hl.one_inv
  cases hn : (fn.name == "internal/bytealg.Compare") with
  | false => rw [hn] at hx; cases hx
  | true =>
   rw [hn] at hx
   have e := eq_of_beq hn
   have hx1 : cmpV s (bytesIn s q n c) (bytesIn s q' n' c') = .ok x s' := hx
   unfold cmpV at hx1
   split at hx1
   case h_2 => cases hx1
   rename_i b1 b2 h1 h2
   rw [ofI_eq] at hx1
   cases hx1
   refine .val _ _ E s w (.refl h) (.int .i64 _) ?_
   rw [run_callFunc_extern hf (goMain e (by decide)) hb (next_none e ho (by kernel_rfl)) (find_some (e := Extern.BytealgCompare.compare) e (by kernel_rfl) (by kernel_rfl) (by kernel_rfl))]
   show ((do pure (goInt (Extern.BytealgCompare.cmp (← Extern.Bytes.bytesOf p) (← Extern.Bytes.bytesOf r))) : Sem Value).run P w).andThen _ = _
   simp only [Sem.run_bind, bytesIn_run h.obs hp h1, bytesIn_run h.obs hr h2, Result.andThen_ok, Sem.run_pure]
   rfl
 ·cases hx
end
end Go.Ev
namespace Go.Proofs.YtcnhinnpieehoaaGreatDoor.Nz
open Go.RowKit
class Rel (R : World → Value → List Nat → Prop) : Prop where
 keep : ∀ {w w' : World} {v : Value} {s : List Nat}, R w v s → Below w.heap.size w w' → R w' v s
 form : ∀ {w : World} {v : Value} {s : List Nat}, R w v s → ∃ a c, v = .slice a s.length c
def Vb (w : World) (v : Value) (s : List Nat) : Prop := ∃ a b off c, v = .slice a s.length c ∧ Vw w a b off s ∧ s.length ≤ c ∧ (a = none → c = 0) ∧ s.length ≤ 140737488351232
instance : Rel Vb where
 keep := fun h k => by
  obtain ⟨a, b, off, c, rfl, hv, r⟩ := h
  exact ⟨a, b, off, c, rfl, hv.below k, r⟩
 form := fun h => by
  obtain ⟨a, b, off, c, rfl, hv, r⟩ := h
  exact ⟨a, c, rfl⟩
inductive Lies (R : World → Value → List Nat → Prop) (w : World) : It → Value → Value → Prop
 | mk {l : Bool} {b : List Nat} {xs : List It} {vb : Value} (a : Option Addr) (blk off c : Nat) (f g : Nat → Value) (hb : R w vb b) (ha : 0 < xs.length → a = some ⟨blk, off, none⟩) (hn : 56 * xs.length ≤ 140737488351232)
   (hc : ∀ i x, xs[i]? = some x → w.cell? ⟨blk, off + i * 3, none⟩ = some (.bool x.l) ∧ w.cell? ⟨blk, off + i * 3 + 1, none⟩ = some (f i) ∧ w.cell? ⟨blk, off + i * 3 + 2, none⟩ = some (g i))
   (hr : ∀ i x, xs[i]? = some x → Lies R w x (f i) (g i)) : Lies R w (.mk l b xs) vb (.slice a xs.length c)
theorem Lies.imp {R R' : World → Value → List Nat → Prop} {w w' : World} (hR : ∀ v s, R w v s → R' w' v s) (hc : ∀ p : Addr, p.block < w.heap.size → w'.cell? p = w.cell? p) : ∀ {x : It} {vb vi : Value}, Lies R w x vb vi → Lies R' w' x vb vi := by
 intro x vb vi h
 induction h with
 | mk a blk off c f g hb ha hn hcc hr ih =>
  refine .mk a blk off c f g (hR _ _ hb) ha hn (fun i x hx => ?_) (fun i x hx => ih i x hx)
  obtain ⟨h1, h2, h3⟩ := hcc i x hx
  have hl : blk < w.heap.size := World.block_lt_of_cell? _ _ h1
  exact ⟨(hc _ hl).trans h1, (hc _ hl).trans h2, (hc _ hl).trans h3⟩
theorem Lies.keep {R : World → Value → List Nat → Prop} [Rel R] {w w' : World} {x : It} {vb vi : Value} (h : Lies R w x vb vi) (k : Below w.heap.size w w') : Lies R w' x vb vi := h.imp (fun _ _ q => Rel.keep q k) (fun _ hp => k.cell hp)
theorem Lies.form {R : World → Value → List Nat → Prop} [Rel R] {w : World} {x : It} {vb vi : Value} (h : Lies R w x vb vi) : ∃ a n c a' n' c', vb = .slice a n c ∧ vi = .slice a' n' c' := by
 cases h with
 | mk a blk off c f g hb ha hn hc hr =>
  obtain ⟨a', c', e⟩ := Rel.form hb
  exact ⟨_, _, _, _, _, _, e, rfl⟩
abbrev iv (l : Bool) (vb vi : Value) : Value := .agg #[.bool l, vb, vi]
structure Its (R : World → Value → List Nat → Prop) (w : World) (xs : List It) (a : Option Addr) (blk off : Nat) : Prop where
 ha : 0 < xs.length → a = some ⟨blk, off, none⟩
 hn : 56 * xs.length ≤ 140737488351232
 get : ∀ i x, xs[i]? = some x → ∃ a1 n1 k1 a2 n2 k2, w.cell? ⟨blk, off + i * 3, none⟩ = some (.bool x.l) ∧ w.cell? ⟨blk, off + i * 3 + 1, none⟩ = some (.slice a1 n1 k1) ∧ w.cell? ⟨blk, off + i * 3 + 2, none⟩ = some (.slice a2 n2 k2) ∧ Lies R w x (.slice a1 n1 k1) (.slice a2 n2 k2)
theorem Its.shut {R : World → Value → List Nat → Prop} {w : World} {l : Bool} {b : List Nat} {xs : List It} {vb : Value} {a : Option Addr} {blk off c : Nat} (h : Its R w xs a blk off) (hb : R w vb b) : Lies R w (.mk l b xs) vb (.slice a xs.length c) := by
 have : ∀ i, ∃ q : Value × Value, ∀ x, xs[i]? = some x → w.cell? ⟨blk, off + i * 3, none⟩ = some (.bool x.l) ∧ w.cell? ⟨blk, off + i * 3 + 1, none⟩ = some q.1 ∧ w.cell? ⟨blk, off + i * 3 + 2, none⟩ = some q.2 ∧ Lies R w x q.1 q.2 := fun i => by
  cases hx : xs[i]? with
  | none => exact ⟨(.bool true, .bool true), fun x e => by cases e⟩
  | some y =>
   obtain ⟨a1, n1, k1, a2, n2, k2, h1, h2, h3, h4⟩ := h.get i y hx
   exact ⟨(.slice a1 n1 k1, .slice a2 n2 k2), fun x e => by cases e; exact ⟨h1, h2, h3, h4⟩⟩
 have hp := fun i => (this i).choose_spec
 exact .mk a blk off c (fun i => (this i).choose.1) (fun i => (this i).choose.2) hb h.ha h.hn (fun i x hx => ⟨(hp i x hx).1, (hp i x hx).2.1, (hp i x hx).2.2.1⟩) (fun i x hx => (hp i x hx).2.2.2)
theorem Its.keep {R : World → Value → List Nat → Prop} [Rel R] {w w' : World} {xs : List It} {a : Option Addr} {blk off : Nat} (h : Its R w xs a blk off) (k : Below w.heap.size w w') : Its R w' xs a blk off :=
 ⟨h.ha, h.hn, fun i x hx => by
  obtain ⟨a1, n1, k1, a2, n2, k2, h1, h2, h3, h4⟩ := h.get i x hx
  have hl : blk < w.heap.size := World.block_lt_of_cell? _ _ h1
  exact ⟨a1, n1, k1, a2, n2, k2, (k.cell hl).trans h1, (k.cell hl).trans h2, (k.cell hl).trans h3, h4.keep k⟩⟩
theorem below_alloc (w : World) (o : Obj) : Below w.heap.size w (w.alloc o) := (Below.refl _ _).alloc (Nat.le_refl _) _
theorem box_keep {w w' : World} {l : Bool} {u v : Value} {t : TypeId} (h : Below (w.alloc (.cells #[.bool l, u, v] t)).heap.size (w.alloc (.cells #[.bool l, u, v] t)) w') :
  w'.cell? ⟨w.heap.size, 0, none⟩ = some (.bool l) ∧ w'.cell? ⟨w.heap.size, 1, none⟩ = some u ∧ w'.cell? ⟨w.heap.size, 2, none⟩ = some v := by
 have q : ∀ j, w'.cell? ⟨w.heap.size, j, none⟩ = #[.bool l, u, v][j]? := fun j => by
  rw [h.cell (p := ⟨w.heap.size, j, none⟩) (by simp), cell_of_row _ _ _ _ _ _ (heap_alloc_new w _)]
 exact ⟨q 0, q 1, q 2⟩
open Go.RowKit
def flt (p c : Nat) : PanicEntry := { v := .iface 124 (.agg #[.int .i64 p, .int .i64 c]), recovered := false }
set_option maxRecDepth 100000 in
set_option maxHeartbeats 800000 in
theorem giveUp_any (w : World) (p c : Nat) : Calls Tryz.prog 70 #[.int .i64 p, .int .i64 c] w fun e w' => e = .panicked [flt p c] ∧ w' = w := by
 go_enter Tryz.func70, Tryz.ntmps70
 go_wp2_with fail
 exact ⟨rfl, rfl, rfl⟩
theorem slice_both (a : Option Addr) (n c l h : Nat) (h1 : l ≤ h) (h2 : h ≤ c) (w : World) : (Instr.slice 33 (.slice a n c) (some (.int .i64 l)) (some (.int .i64 h)) none).run Tryz.prog w = .ok (.slice (behind a c l) (h - l) (c - l)) w := by
 rw [run_slice_lh w 33 a n c (by rw [elem24]; exact Tryz.underlying33) .i64 .i64 l h (by omega) (by omega) (by omega), elem24, size5]
 simp only [Result.andThen, sliced, behind]
 simp
structure Vp (w : World) (a : Option Addr) (b off e c : Nat) (s : List Nat) : Prop where
 view : View w a b off e (fun i => ((gd s i : Nat) : Int))
 len : e ≤ s.length
 cap : e ≤ c
 small : s.length ≤ 1048576
 ok : ∀ x ∈ s, x < 256
theorem Vp.keep {w w' : World} {a : Option Addr} {b off e c : Nat} {s : List Nat} (h : Vp w a b off e c s) (k : Below w.heap.size w w') : Vp w' a b off e c s := ⟨h.view.below k, h.len, h.cap, h.small, h.ok⟩
theorem Vp.upto {w : World} {a : Option Addr} {b off e c z : Nat} {s : List Nat} (h : Vp w a b off e c s) (hz : z ≤ e) : Vp w a b off z c s :=
 ⟨⟨fun q => h.view.at_ (by omega), fun i hi => h.view.cell i (by omega), fun i hi => h.view.bd i (by omega), by have := h.view.len; omega⟩, by have := h.len; omega, by have := h.cap; omega, h.small, h.ok⟩
theorem Vp.cut {w : World} {a : Option Addr} {b off e c l z : Nat} {s : List Nat} (h : Vp w a b off e c s) (h1 : l ≤ z) (h2 : z ≤ e) : Vw w (behind a c l) b (off + l) (cut s l z) := by
 have hl : (Go.Proofs.YtcnhinnpieehoaaGreatDoor.Nz.cut s l z).length = z - l := cut_len (by have := h.len; omega)
 have hc := h.cap
 refine ⟨fun q => ?_, fun i hi => ?_, fun i hi => ?_, by rw [hl]; have := h.small; have := h.len; omega⟩
 ·rw [hl] at q
  have := h.view.at_ (by omega)
  subst this
  unfold behind
  rw [if_neg (by omega)]
  simp [Go.WideShapes.add_plain]
 ·rw [hl] at hi
  have := h.view.cell (l + i) (by omega)
  rw [cut_gd (by omega), Nat.add_assoc]
  exact this
 ·rw [hl] at hi
  have := h.view.bd (l + i) (by omega)
  rw [cut_gd (by omega)]
  exact this
theorem Vp.cell {w : World} {a : Option Addr} {b off e c i : Nat} {s : List Nat} (h : Vp w a b off e c s) (hi : i < e) : a = some ⟨b, off, none⟩ ∧ w.cell? ⟨b, off + i, none⟩ = some (.int .u8 ((gd s i : Nat) : Int)) ∧ gd s i < 256 := ⟨h.view.at_ (by omega), h.view.cell i hi, gd_lt h.ok i⟩
def rdLen (s : List Nat) : Option Nat × Nat := if gd s 0 = 0 then (none, 52) else if 1048576 < num s then (none, 54) else if num s < 56 then (none, 52) else (some (num s), 0)
set_option maxRecDepth 100000 in
set_option maxHeartbeats 1600000 in
theorem readLength_any (w : World) (a : Option Addr) (b off c p : Nat) (s : List Nat) (hv : Vw w a b off s) (h0 : 0 < s.length) (h8 : s.length ≤ 8) :
  Calls Tryz.prog 124 #[.slice a s.length c, .int .i64 p] w fun e w' => w' = w ∧ match rdLen s with
   | (some n, _) => e = .returned (.int .i64 n)
   | (none, r) => e = .panicked [flt p r] := by
 obtain rfl := hv.at_ h0
 have c0 := hv.cell 0 h0
 rw [Nat.add_zero] at c0
 have K1 := numberOf_any w _ _ _ c s hv h8
 have KG := fun r => giveUp_any w p r
 have hx := gd_lt (vw_ok hv).2 0
 have hnum : num s < 18446744073709551616 := by
  have := num_lt (vw_ok hv).2
  have : 256 ^ s.length ≤ 256 ^ 8 := Nat.pow_le_pow_right (by decide) h8
  omega
 unfold rdLen
 by_cases hz : gd s 0 = 0
 ·rw [if_pos hz]
  rw [hz] at c0
  generalize s.length = n at *
  clear hv hnum K1
  go_enter Tryz.func124, Tryz.ntmps124
  go_wp2_with (go_at_call 70; refine (KG 52).mono ?_; rintro e w' ⟨rfl, rfl⟩)
  exact ⟨rfl, rfl, rfl⟩
 ·rw [if_neg hz]
  have hz' : ¬ ((gd s 0 : Nat) : Int) = 0 := by omega
  generalize hgx : gd s 0 = x at *
  clear hgx
  generalize num s = m at *
  have hl1 : 0 < s.length := h0
  generalize s.length = n at *
  clear hv
  by_cases h1 : 1048576 < m
  ·rw [if_pos h1]
   have i1 : (1048576 : Int) < m := by omega
   go_enter Tryz.func124, Tryz.ntmps124
   go_wp2_with (first | (go_at_call 103; refine K1.mono ?_; rintro e w' ⟨rfl, rfl⟩) | (go_at_call 70; refine (KG 54).mono ?_; rintro e w' ⟨rfl, rfl⟩))
   exact ⟨rfl, rfl, rfl⟩
  ·rw [if_neg h1]
   have i1 : ¬ (1048576 : Int) < m := by omega
   by_cases h2 : m < 56
   ·rw [if_pos h2]
    have i2 : (m : Int) < 56 := by omega
    go_enter Tryz.func124, Tryz.ntmps124
    go_wp2_with (first | (go_at_call 103; refine K1.mono ?_; rintro e w' ⟨rfl, rfl⟩) | (go_at_call 70; refine (KG 52).mono ?_; rintro e w' ⟨rfl, rfl⟩))
    exact ⟨rfl, rfl, rfl⟩
   ·rw [if_neg h2]
    have i2 : ¬ (m : Int) < 56 := by omega
    go_enter Tryz.func124, Tryz.ntmps124
    go_wp2_with (go_at_call 103; refine K1.mono ?_; rintro e w' ⟨rfl, rfl⟩)
    go_ret
    exact ⟨rfl, rfl⟩
open Go.RowKit
set_option maxRecDepth 100000 in
set_option maxHeartbeats 1600000 in
theorem readHead_any (w : World) (a : Option Addr) (b off e c p base m : Nat) (s : List Nat) (hv : Vp w a b off e c s) (hp : p < e) (hg : gd s p = base + m) (hm : m < 64) :
  Calls Tryz.prog 102 #[.slice a e c, .int .i64 p, .int .u8 base] w fun r w' => w' = w ∧ match rdHead s p e m with
   | .ok x z => r = .returned (.tuple #[.int .i64 x, .int .i64 z])
   | .bad q => r = .panicked [flt p q] := by
 obtain ⟨rfl, c0, hx⟩ := hv.cell hp
 rw [hg] at c0
 have KG := fun r => giveUp_any w p r
 have he : e ≤ 1048576 := by have := hv.len; have := hv.small; omega
 have e1 : ((base + m : Nat) : Int) = (base : Int) + m := by omega
 rw [e1] at c0
 have eb : (base : Int) + m - base = m := by omega
 clear e1
 have hb256 : base + m < 256 := by omega
 unfold rdHead
 by_cases h1 : m < 56
 ·rw [if_pos h1]
  have i1 : (m : Int) < 56 := by omega
  by_cases h2 : e - (p + 1) < m
  ·rw [if_pos h2]
   have i2 : (e : Int) - ((p : Int) + 1) < m := by omega
   clear hv hg hx
   go_enter Tryz.func102, Tryz.ntmps102
   go_wp2_with (go_at_call 70; refine (KG 50).mono ?_; rintro e w' ⟨rfl, rfl⟩)
   exact ⟨rfl, rfl, rfl⟩
  ·rw [if_neg h2]
   have i2 : ¬ (e : Int) - ((p : Int) + 1) < m := by omega
   clear hv hg hx
   go_enter Tryz.func102, Tryz.ntmps102
   go_wp2_with fail
   go_ret2
   exact ⟨rfl, rfl⟩
 ·rw [if_neg h1]
  have i1 : ¬ (m : Int) < 56 := by omega
  by_cases h2 : e - (p + 1) < m - 55
  ·rw [if_pos h2]
   have i2 : (e : Int) - ((p : Int) + 1) < (m : Int) - 55 := by omega
   clear hv hg hx
   go_enter Tryz.func102, Tryz.ntmps102
   go_wp2_with (go_at_call 70; refine (KG 50).mono ?_; rintro e w' ⟨rfl, rfl⟩)
   exact ⟨rfl, rfl, rfl⟩
  ·rw [if_neg h2]
   have i2 : ¬ (e : Int) - ((p : Int) + 1) < (m : Int) - 55 := by omega
   obtain ⟨k, rfl⟩ : ∃ k, m = k + 55 := ⟨m - 55, by omega⟩
   rw [Nat.add_sub_cancel] at *
   have sb := slice_both (some ⟨b, off, none⟩) e c (p + 1) (p + 1 + k) (by omega) (by have := hv.cap; omega)
   have hc := hv.cut (l := p + 1) (z := p + 1 + k) (by omega) (by omega)
   have hcl : (cut s (p + 1) (p + 1 + k)).length = k := by rw [cut_len (by have := hv.len; omega)]; omega
   have KL := readLength_any w _ _ _ (c - (p + 1)) p _ hc (by omega) (by omega)
   have hg1 : gd (cut s (p + 1) (p + 1 + k)) 0 = gd s (p + 1) := by rw [cut_gd (by omega), Nat.add_zero]
   rw [hcl] at KL
   unfold rdLen at KL
   rw [hg1] at KL
   rw [show p + 1 + k - (p + 1) = k by omega] at sb
   generalize behind (some ⟨b, off, none⟩) c (p + 1) = bh at sb KL
   generalize num (cut s (p + 1) (p + 1 + k)) = n at *
   generalize gd s (p + 1) = x at *
   rw [show (((p + 1 : Nat)) : Int) = (p : Int) + 1 by omega, show (((p + 1 + k : Nat)) : Int) = (p : Int) + 1 + k by omega] at sb
   clear hv hg hx hc hcl hg1
   have eb2 : (base : Int) + ((k : Int) + 55) - base = (k : Int) + 55 := by omega
   have ek : ((k + 55 : Nat) : Int) = (k : Int) + 55 := by omega
   have ek2 : (k : Int) + 55 - 55 = (k : Int) := by omega
   rw [ek] at c0 i1 i2
   clear ek eb
   by_cases h3 : x = 0
   ·rw [if_pos h3] at KL ⊢
    go_enter Tryz.func102, Tryz.ntmps102
    go_wp2_with (go_at_call 124; refine KL.mono ?_; rintro e w' ⟨rfl, rfl⟩)
    exact ⟨rfl, rfl, rfl⟩
   ·rw [if_neg h3] at KL ⊢
    by_cases h4 : 1048576 < n
    ·rw [if_pos h4] at KL ⊢
     go_enter Tryz.func102, Tryz.ntmps102
     go_wp2_with (go_at_call 124; refine KL.mono ?_; rintro e w' ⟨rfl, rfl⟩)
     exact ⟨rfl, rfl, rfl⟩
    ·rw [if_neg h4] at KL ⊢
     by_cases h5 : n < 56
     ·rw [if_pos h5] at KL ⊢
      go_enter Tryz.func102, Tryz.ntmps102
      go_wp2_with (go_at_call 124; refine KL.mono ?_; rintro e w' ⟨rfl, rfl⟩)
      exact ⟨rfl, rfl, rfl⟩
     ·rw [if_neg h5] at KL ⊢
      by_cases h6 : e - (p + 1 + k) < n
      ·rw [if_pos h6]
       have i6 : (e : Int) - ((p : Int) + 1 + k) < n := by omega
       go_enter Tryz.func102, Tryz.ntmps102
       go_wp2_with (first | (go_at_call 124; refine KL.mono ?_; rintro e w' ⟨rfl, rfl⟩) | (go_at_call 70; refine (KG 50).mono ?_; rintro e w' ⟨rfl, rfl⟩))
       exact ⟨rfl, rfl, rfl⟩
      ·rw [if_neg h6]
       have i6 : ¬ (e : Int) - ((p : Int) + 1 + k) < n := by omega
       go_enter Tryz.func102, Tryz.ntmps102
       go_wp2_with (go_at_call 124; refine KL.mono ?_; rintro e w' ⟨rfl, rfl⟩)
       go_ret2
       exact ⟨rfl, rfl⟩
end Go.Proofs.YtcnhinnpieehoaaGreatDoor.Nz
