import Derived.Test.YtgglbjnfbfpiiaaGreatDoorF6zz
import Derived.Laws.LoneSync
import Derived.KernelRfl
/-
  The evaluator: functions that the model tells.
-/
namespace Go.Ev
open Go
section
variable {P : Program} {E : En}
theorem store_one {w w' : World} {g o : Nat} {u v : Value} (hv : v.oneCell' = true) (hc : w.cell? ⟨g, o, none⟩ = some u) (h : (storeCells ⟨g, o, none⟩ [v]).run P w = .ok () w') : w.frozen? ⟨g, o, none⟩ = false ∧ w' = w.setCell ⟨g, o, none⟩ v := by
  simp only [storeCells, add_eq, Nat.add_zero, Sem.run_bind] at h
  rw [run_store P w _ v _ hv, hc] at h
  cases hz : w.frozen? ⟨g, o, none⟩ with
  | true => rw [hz] at h; simp [Result.andThen] at h
  | false =>
    rw [hz] at h
    simp at h
    exact ⟨rfl, h.symm⟩
/-! ### What stands under a name -/
theorem next_none {fn : Func} {n : String} (hn : fn.name = n) (ho : fn.origin = "") (h : Extern.allNextRows.lookup n = none) : Extern.findNext fn = none := by
  unfold Extern.findNext
  simp only [hn, ho, h, show Extern.allNextRows.lookup "" = none by kernel_rfl]
  rfl
theorem find_some {fn : Func} {n : String} {e : Array Value → Sem Value} (hn : fn.name = n) (h1 : Extern.allGenericRows.lookup n = none) (h2 : Extern.allTypedRows.lookup n = none) (h3 : Extern.allRows.lookup n = some e) : Extern.find fn = some e := by
  unfold Extern.find
  simp only [hn, h1, h2, h3]
  rfl
theorem goMain {fn : Func} {n : String} (hn : fn.name = n) (h : (n == "runtime.NumGoroutine") = false) : (fn.name == "runtime.NumGoroutine") = false := by rw [hn]; exact h
theorem bytesOf_run {w : World} : ∀ (ns : List Nat) (g o : Nat) (acc : ByteArray), (∀ (j : Nat) (n : Nat), ns[j]? = some n → w.cell? ⟨g, o + j, none⟩ = some (.int .u8 (.ofNat n))) →
    (Extern.Bytes.loadBytes ⟨g, o, none⟩ ns.length acc).run P w = .ok ⟨⟨acc.data.toList ++ ns.map UInt8.ofNat⟩⟩ w
  | [], g, o, acc, _ => by simp [Extern.Bytes.loadBytes]
  | n :: ns, g, o, acc, h => by
    have h0 := h 0 n rfl
    rw [Nat.add_zero] at h0
    have ih := bytesOf_run ns g (o + 1) (acc.push (UInt8.ofNat n)) (fun j m hj => by
      rw [show o + 1 + j = o + (j + 1) by omega]; exact h (j + 1) m hj)
    simp only [List.length_cons, Extern.Bytes.loadBytes, Sem.run_bind, run_load, h0, Result.andThen_ok]
    rw [add_eq]
    have e : (Int.ofNat n).toNat.toUInt8 = UInt8.ofNat n := rfl
    rw [e, ih]
    simp [ByteArray.push]
theorem bytesIn_run {s : St} {w : World} (h : Obs E s w) {q : Option Addr} {n c : Nat} {v' : Value} {bs : List UInt8} (hv : VR E (.slice q n c) v') (hb : bytesIn s q n c = some bs) : (Extern.Bytes.bytesOf v').run P w = .ok ⟨⟨bs⟩⟩ w := by
  unfold bytesIn at hb
  split at hb
  case h_2 => cases hb
  rename_i cs hcs
  obtain ⟨ns, rfl, rfl⟩ := bytesOf_some hb
  have nil0 : ∀ {l : List Value}, some l = some (ns.map fun n => Value.int .u8 (.ofNat n)) → l = [] → ns = [] := by
    intro l e1 e2
    subst e2
    have := Option.some.inj e1
    cases ns with
    | nil => rfl
    | cons a b => cases this
  cases q with
  | none =>
    have hcs' : cond (Nat.beq n 0) (some []) none = some (ns.map fun n => Value.int .u8 (.ofNat n)) := hcs
    cases en : Nat.beq n 0 with
    | false => rw [en] at hcs'; cases hcs'
    | true =>
      rw [en] at hcs'
      obtain rfl := nil0 hcs' rfl
      obtain rfl := plain_eq 1 _ _ rfl hv
      rfl
  | some a =>
    obtain ⟨b, off, sp⟩ := a
    cases sp with
    | none =>
      obtain ⟨_, c', rfl, _⟩ := hv.sl_inv
      have hr : readAt s b off (Nat.mul n 1) = some (ns.map fun n => Value.int .u8 (.ofNat n)) := hcs
      have hl : ns.length = n := by
        have := readAt_len hr
        rw [List.length_map] at this
        rw [this]; exact Nat.mul_one n
      obtain ⟨r', k1, k2⟩ := readAt_cell P h hr
      have e := k1.ints_eq
      subst e
      have := bytesOf_run (P := P) (w := w) ns (E.ι b) (E.sh b + off) .empty (fun j m hj => k2 j _ (by rw [List.getElem?_map, hj]; rfl))
      rw [hl] at this
      exact this
    | some z =>
      have hcs' : cond (Nat.beq n 0) (some []) none = some (ns.map fun n => Value.int .u8 (.ofNat n)) := hcs
      cases en : Nat.beq n 0 with
      | false => rw [en] at hcs'; cases hcs'
      | true =>
        rw [en] at hcs'
        have hn : n = 0 := Nat.eq_of_beq_eq_true en
        subst hn
        obtain rfl := nil0 hcs' rfl
        obtain ⟨a', c', rfl, ha⟩ := hv.slice_any
        cases a' with
        | none => cases ha
        | some a' => rfl
theorem ext_act {N : Nat} {s s' : St} {w : World} (h : Rel N E s w) {f : FuncId} {fn : Func} (hf : P.funcs[f]? = some fn) (hb : fn.body.isNone = true) (ho : fn.origin = "") {args args' : List Value} {x : Nx} (ha : VRs E args args') (hx : extV P fn args s = .ok x s') :
    ActR N P E s w (callFunc f ⟨args'⟩) x s' := by
  unfold extV at hx
  split at hx
  · -- marks
    cases ha
    cases hn : (fn.name == "internal/race.Disable" || fn.name == "internal/race.Enable") with
    | false => rw [hn] at hx; cases hx
    | true =>
      rw [hn] at hx
      cases hx
      refine .val _ _ E s w (.refl h) .undef ?_
      rcases Bool.or_eq_true_iff.1 hn with e | e
      · have e := eq_of_beq e
        exact run_call_mark0 hf (goMain e (by decide)) hb (next_none e ho (by kernel_rfl)) .disable (find_some e (by kernel_rfl) (by kernel_rfl) (by kernel_rfl)) w
      · have e := eq_of_beq e
        exact run_call_mark0 hf (goMain e (by decide)) hb (next_none e ho (by kernel_rfl)) .enable (find_some e (by kernel_rfl) (by kernel_rfl) (by kernel_rfl)) w
  · obtain ⟨v', rfl, hv⟩ := ha.one_inv
    obtain ⟨_, rfl⟩ := hv.ptr_inv
    cases hn : (fn.name == "internal/race.Acquire" || fn.name == "internal/race.ReleaseMerge") with
    | false => rw [hn] at hx; cases hx
    | true =>
      rw [hn] at hx
      cases hx
      refine .val _ _ E s w (.refl h) .undef ?_
      rcases Bool.or_eq_true_iff.1 hn with e | e
      · have e := eq_of_beq e
        exact run_call_marked hf (goMain e (by decide)) hb (next_none e ho (by kernel_rfl)) .acquire (find_some e (by kernel_rfl) (by kernel_rfl) (by kernel_rfl)) _ w
      · have e := eq_of_beq e
        exact run_call_marked hf (goMain e (by decide)) hb (next_none e ho (by kernel_rfl)) .releaseMerge (find_some e (by kernel_rfl) (by kernel_rfl) (by kernel_rfl)) _ w
  · rename_i b off y
    cases ha with
    | cons _ p _ l' hp hl =>
    obtain ⟨q, rfl, hq⟩ := hl.one_inv
    obtain ⟨_, rfl⟩ := hp.ptr_inv
    obtain rfl := hq.int_inv
    cases hn : (fn.name == "sync/atomic.AddInt32") with
    | false => rw [hn] at hx; cases hx
    | true =>
      rw [hn] at hx
      have e := eq_of_beq hn
      have hx1 : addV P s b off y = .ok x s' := hx
      unfold addV at hx1
      split at hx1
      case h_2 => cases hx1
      rename_i z hz
      unfold addW at hx1
      split at hx1
      case h_2 => cases hx1
      rename_i m hm
      rw [fI_eq] at hx1
      split at hx1
      case h_2 => cases hx1
      rename_i s2 hs2
      cases hx1
      obtain ⟨u, hu, hc⟩ := readAt1_cell h.obs hz
      obtain rfl := hu.int_inv
      obtain ⟨w', k1, k2⟩ := stp_write P h hs2 (.cons _ _ _ _ (.int .i32 m) .nil)
      obtain ⟨k3, rfl⟩ := store_one rfl hc k1
      refine .val _ _ E _ _ k2 (.int .i32 m) ?_
      exact run_call_add hf (goMain e (by decide)) hb (next_none e ho (by kernel_rfl)) .i32 (find_some e (by kernel_rfl) (by kernel_rfl) (by kernel_rfl)) hc k3 (pureRun_run hm w)
  · rename_i b off y z
    cases ha with
    | cons _ p _ l' hp hl =>
    cases hl with
    | cons _ q _ l'' hq hl2 =>
    obtain ⟨r, rfl, hr⟩ := hl2.one_inv
    obtain ⟨_, rfl⟩ := hp.ptr_inv
    obtain rfl := hq.int_inv
    obtain rfl := hr.int_inv
    cases hn : (fn.name == "sync/atomic.CompareAndSwapInt32") with
    | false => rw [hn] at hx; cases hx
    | true =>
      rw [hn] at hx
      have e := eq_of_beq hn
      have hx1 : casV s b off y z = .ok x s' := hx
      unfold casV at hx1
      split at hx1
      case h_2 => cases hx1
      rename_i m hm
      cases hd : decide (m = y) with
      | false => rw [hd] at hx1; cases hx1
      | true =>
        rw [hd] at hx1
        have hy := of_decide_eq_true hd
        subst hy
        simp only [cond] at hx1
        split at hx1
        case h_2 => cases hx1
        rename_i s2 hs2
        cases hx1
        obtain ⟨u, hu, hc⟩ := readAt1_cell h.obs hm
        obtain rfl := hu.int_inv
        obtain ⟨w', k1, k2⟩ := stp_write P h hs2 (.cons _ _ _ _ (.int .i32 z) .nil)
        obtain ⟨k3, rfl⟩ := store_one rfl hc k1
        refine .val _ _ E _ _ k2 (.bool true) ?_
        exact run_call_cas_hit hf (goMain e (by decide)) hb (next_none e ho (by kernel_rfl)) .i32 (find_some e (by kernel_rfl) (by kernel_rfl) (by kernel_rfl)) hc k3
  · rename_i q n c q' n' c'
    cases ha with
    | cons _ p _ l' hp hl =>
    obtain ⟨r, rfl, hr⟩ := hl.one_inv
    cases hn : (fn.name == "internal/bytealg.Compare") with
    | false => rw [hn] at hx; cases hx
    | true =>
      rw [hn] at hx
      have e := eq_of_beq hn
      have hx1 : cmpV s (bytesIn s q n c) (bytesIn s q' n' c') = .ok x s' := hx
      unfold cmpV at hx1
      split at hx1
      case h_2 => cases hx1
      rename_i b1 b2 h1 h2
      rw [ofI_eq] at hx1
      cases hx1
      refine .val _ _ E s w (.refl h) (.int .i64 _) ?_
      rw [run_callFunc_extern hf (goMain e (by decide)) hb (next_none e ho (by kernel_rfl)) (find_some (e := Extern.BytealgCompare.compare) e (by kernel_rfl) (by kernel_rfl) (by kernel_rfl))]
      show ((do pure (goInt (Extern.BytealgCompare.cmp (← Extern.Bytes.bytesOf p) (← Extern.Bytes.bytesOf r))) : Sem Value).run P w).andThen _ = _
      simp only [Sem.run_bind, bytesIn_run h.obs hp h1, bytesIn_run h.obs hr h2, Result.andThen_ok, Sem.run_pure]
      rfl
  · cases hx
end
end Go.Ev
