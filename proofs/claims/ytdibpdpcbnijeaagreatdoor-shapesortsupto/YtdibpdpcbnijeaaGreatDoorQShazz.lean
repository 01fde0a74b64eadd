import Derived.Test.YtdibpdpcbnijeaaGreatDoorF3zz
import Derived.Test.YtdibpdpcbnijeaaGreatDoorChecked
import Derived.WalkKit
import Derived.Deep.OwnRows
import Derived.Deep.LoopGhost
import Derived.Deep.QuietTactic
import Derived.BigQuiet
import Derived.Deep.Light
import Derived.Laws.BytesArg
import Derived.WalkSmall
import Derived.Laws.BitsAllLaws
/-
  The evaluator: the operations that change memory.
-/
namespace Go.Ev
open Go
section
variable {P : Program} {E : En}
theorem cellsFrom_sound {N : Nat} {s : St} {w : World} (h : Rel N E s w) {size n : Nat} {y y' : Value} {cs : List Value} (hy : VR E y y') (hc : cellsFrom s size n y = some cs) :
    ∃ cs', VRs E cs cs' ∧ (Builtin.firstCells size n y').run P w = .ok ⟨cs'⟩ w := by
  cases y with
  | slice q l c =>
    cases q with
    | none =>
      have hc' : cond (Nat.beq n 0) (some []) none = some cs := hc
      cases en : Nat.beq n 0 with
      | false => rw [en] at hc'; cases hc'
      | true =>
        rw [en] at hc'
        cases hc'
        obtain rfl := plain_eq 1 _ _ rfl hy
        exact ⟨[], .nil, rfl⟩
    | some a =>
      obtain ⟨b, off, sp⟩ := a
      cases sp with
      | none =>
        obtain ⟨_, c', rfl, _⟩ := hy.sl_inv
        obtain ⟨r', k1, k2, k3⟩ := readAt_run (P := P) h.obs (show readAt s b off (Nat.mul n size) = _ from hc)
        exact ⟨r', k1, k3⟩
      | some z =>
        have hc' : cond (Nat.beq n 0) (some []) none = some cs := hc
        cases en : Nat.beq n 0 with
        | false => rw [en] at hc'; cases hc'
        | true =>
          rw [en] at hc'
          cases hc'
          have hn : n = 0 := Nat.eq_of_beq_eq_true en
          subst hn
          obtain ⟨a', c', rfl, ha⟩ := hy.slice_any
          cases a' with
          | none => cases ha
          | some a' => exact ⟨[], .nil, by simp [Builtin.firstCells, loadCells, loadCellsFrom]⟩
  | string t =>
    have hc' : cond (Nat.beq size 1 && Nat.ble n t.size) (some ((t.extract 0 n).data.toList.map fun b => Value.int .u8 b.toNat)) none = some cs := hc
    cases hq : (Nat.beq size 1 && Nat.ble n t.size) with
    | false => rw [hq] at hc'; cases hc'
    | true =>
    rw [hq] at hc'
    cases hc'
    obtain rfl := hy.str_inv
    refine ⟨_, VRs.self (p := plain 1) (plain_VR E 1) _ (by rw [List.all_map]; exact List.all_eq_true.2 fun _ _ => rfl), ?_⟩
    simp only [Builtin.firstCells, Sem.run_pure]
    congr 1
    apply Array.ext'
    simp
  | _ => cases hc
theorem lenOfV_sound {y y' : Value} {k : Nat} (hy : VR E y y') (h : lenOfV y = some k) (w : World) : (Builtin.lenOf y').run P w = .ok k w := by
  cases y with
  | slice q l c => cases h; obtain ⟨a', c', rfl, _⟩ := hy.slice_any; rfl
  | string t => cases h; obtain rfl := hy.str_inv; rfl
  | _ => cases h
theorem firstCells_len {size n : Nat} {cs cs' : List Value} (hv : VRs E cs cs') (hl : cs.length = n * size) : cs'.length = n * size := by rw [← hv.length]; exact hl
/-- What an operation that acts comes to. -/
inductive ActR (N : Nat) (P : Program) (E : En) (s : St) (w : World) (m : Sem Next) : Nx → St → Prop
  | val (v v' : Value) (E' : En) (s' : St) (w' : World) : Stp N E s w E' s' w' → VR E' v v' → m.run P w = .ok (.value v') w' → ActR N P E s w m (.val v) s'
  | skip (E' : En) (s' : St) (w' : World) : Stp N E s w E' s' w' → m.run P w = .ok .skip w' → ActR N P E s w m (.val undef) s'
  | enter (f : FuncId) (args args' : List Value) : VRs E args args' → m.run P w = .ok (.enter f ⟨args'⟩) w → ActR N P E s w m (.enter f args) s
  | round (l : Nat) (args args' : List Value) : l < E.nx → VRs E args args' → m.run P w = (Instr.yield (E.ι l) ⟨args'⟩).run P w → ActR N P E s w m (.round l args) s
  | defer (d d' : Deferred) : DfR E d d' → m.run P w = .ok (.defer d') w → ActR N P E s w m (.defer d) s
  | recover : m.run P w = .ok .recover w → ActR N P E s w m .recover s
theorem ofS_ok {o : Option St} {x : Nx} {s' : St} (h : ofS o = .ok x s') : o = some s' ∧ x = .val undef := by
  cases o with
  | none => cases h
  | some s => cases h; exact ⟨rfl, rfl⟩
theorem act_store {N : Nat} {s s' : St} {w : World} (h : Rel N E s w) {t : TypeId} {a a' b b' : Value} {x : Nx} (ha : VR E a a') (hb : VR E b b') (hx : xStore P t a (cellsL b) s = .ok x s') :
    ActR N P E s w (do Instr.storeAt t a' b'; pure .skip) x s' := by
  unfold xStore at hx
  split at hx
  case h_2 => cases hx
  rename_i bk off cs hcs
  obtain ⟨_, rfl⟩ := ha.ptr_inv
  split at hx
  case h_2 => cases hx
  rename_i n hn
  cases e : Nat.beq cs.length n with
  | false => rw [e] at hx; cases hx
  | true =>
    rw [e] at hx
    obtain ⟨h1, rfl⟩ := ofS_ok (show ofS (writeAt s bk off cs) = .ok x s' from hx)
    have hl := Nat.eq_of_beq_eq_true e
    have hv := cellsL_sound hb hcs
    obtain ⟨w', k1, k2⟩ := stp_write P h h1 hv
    refine .skip E s' w' k2 ?_
    have hsz : b'.cells.size = n := by rw [← Array.length_toList, ← hv.length]; exact hl
    simp only [Instr.storeAt, Instr.sureAddr, storeVar, Sem.run_bind, Sem.run_pure, Result.andThen_ok, run_sizeOf w hn, hsz, ne_eq, not_true_eq_false, if_false, k1]
theorem act_copy {N : Nat} {s s' : St} {w : World} (h : Rel N E s w) {ts : Array TypeId} {ty t : TypeId} {e : TypeId} {a a' b b' : Value} {x : Nx} (h0 : ts[0]? = some t) (hu : P.underlying t = some (.slice e)) (ha : VR E a a') (hb : VR E b b')
    (hx : copyV P s e a b = .ok x s') : ActR N P E s w (do pure (.value (← Builtin.copy_ ts ty ⟨[a', b']⟩))) x s' := by
  unfold copyV at hx
  split at hx
  case h_2 => cases hx
  rename_i size base n c k hs hk
  rw [fN_eq] at hx
  split at hx
  case h_1 => cases hx
  rename_i new hnew
  obtain ⟨new', hv, hrun⟩ := cellsFrom_sound (P := P) h hb hnew
  have hlen := lenOfV_sound (P := P) hb hk w
  obtain ⟨q', c', rfl, hq⟩ := ha.slice_any
  have fin : ∀ w', ((match q' with
      | some a => storeCells a new'
      | none => pure ()) : Sem Unit).run P w = .ok () w' → (do pure (Next.value (← Builtin.copy_ ts ty ⟨[.slice q' n c', b']⟩)) : Sem Next).run P w = .ok (.value (.int .i64 (.ofNat (Nat.min k n)))) w' := by
    intro w' hw
    simp only [Builtin.copy_, Sem.run_bind, Sem.run_pure, Result.andThen_ok, h0, List.getElem?_toArray, List.getElem?_cons_zero, List.getElem?_cons_succ, run_underlying hu, hlen, run_sizeOf w hs, hrun]
    cases q' with
    | none => cases hw; rfl
    | some q =>
      simp only at hw
      simp only [Sem.run_bind, hw, Result.andThen_ok, Sem.run_pure]
      rfl
  split at hx
  · rename_i b0 off
    obtain ⟨_, c2, e2, _⟩ := ha.sl_inv
    cases e2
    split at hx
    · rename_i s1 hw1
      cases hx
      obtain ⟨w', k1, k2⟩ := stp_write P h hw1 hv
      exact .val _ _ E s' w' k2 (.int _ _) (fin w' k1)
    · cases hx
  · rename_i hnb
    cases en : Nat.beq (Nat.min k n) 0 with
    | false => rw [en] at hx; cases hx
    | true =>
      rw [en] at hx
      cases hx
      have hm : Nat.min k n = 0 := Nat.eq_of_beq_eq_true en
      rw [hm] at fin hnew
      have hn0 : new' = [] := by
        have : new = [] := by
          cases b with
          | slice q l c =>
            cases q with
            | none => cases hnew; rfl
            | some a =>
              obtain ⟨b1, o1, sp⟩ := a
              cases sp with
              | none =>
                obtain ⟨hp, nx, gr⟩ := s
                have : readOb o1 (Nat.mul 0 size) (hp.get b1) = some new := hnew
                rw [show Nat.mul 0 size = 0 from Nat.zero_mul size] at this
                unfold readOb at this
                split at this <;> first | (cases this; rfl) | (cases this; done)
              | some z => cases hnew; rfl
          | string t =>
            have hc' : cond (Nat.beq size 1 && Nat.ble 0 t.size) (some ((t.extract 0 0).data.toList.map fun b => Value.int .u8 b.toNat)) none = some new := hnew
            cases hq : (Nat.beq size 1 && Nat.ble 0 t.size) with
            | false => rw [hq] at hc'; cases hc'
            | true => rw [hq] at hc'; cases hc'; simp
          | _ => cases hnew
        subst this
        cases hv; rfl
      subst hn0
      exact .val _ _ E s w (.refl h) (.int _ _) (fin w (by cases q' <;> simp [storeCells]))
end
end Go.Ev
/-
  The evaluator: append.
-/
namespace Go.Ev
open Go
theorem growBy_le (n : Nat) : ∀ (r c : Nat), c < n ∨ c ≤ 2 * n + 768 → Builtin.growBy n r c ≤ 2 * n + 768
  | 0, c, h => by unfold Builtin.growBy; omega
  | r + 1, c, h => by
    unfold Builtin.growBy
    split
    · omega
    · exact growBy_le n r _ (.inr (by omega))
theorem nextcap_le {need old : Nat} (h : old < need) : Builtin.nextslicecap need old ≤ 2 * need + 768 := by
  unfold Builtin.nextslicecap
  split
  · omega
  · split
    · omega
    · exact growBy_le need 4 old (.inl h)
def notInt : TypeDesc → Bool
  | .int _ => false
  | _ => true
section
variable {P : Program} {E : En} {ts : Array TypeId} {ty t u e : TypeId} {d : TypeDesc} {size k n c : Nat} {base : Option Addr} {y' : Value} {new' : List Value} {w : World}
theorem run_append_in {w' : World} (h0 : ts[0]? = some t) (hu : P.underlying t = some (.slice e)) (h1 : ts[1]? = some u) (hd : P.underlying u = some d) (hz : notInt d = true) (hs : sizeOfT P e = some size)
    (hl : ∀ w, (Builtin.lenOf y').run P w = .ok k w) (hn : (Builtin.firstCells size k y').run P w = .ok ⟨new'⟩ w) (hle : n + k ≤ c)
    (hw : ((match base with
      | some a => storeCells (a.add (n * size)) new'
      | none => pure ()) : Sem Unit).run P w = .ok () w') :
    (Builtin.append_ ts ty ⟨[.slice base n c, y']⟩).run P w = .ok (.slice base (n + k) c) w' := by
  cases d <;> first | (cases hz; done) | skip
  all_goals
    simp only [Builtin.append_, Sem.run_bind, Sem.run_pure, Result.andThen_ok, h0, h1, List.getElem?_toArray, List.getElem?_cons_zero, List.getElem?_cons_succ, run_underlying hu, run_underlying hd, run_sizeOf w hs, Bool.false_eq_true, if_false, hl w, Bool.not_false, if_true, hn, hle]
    cases base with
    | none => cases hw; rfl
    | some a =>
      simp only at hw
      simp only [Sem.run_bind, hw, Result.andThen_ok, Sem.run_pure]
theorem run_append_new {old' : List Value} {ti : TypeInfo} {z : Value} (h0 : ts[0]? = some t) (hu : P.underlying t = some (.slice e)) (h1 : ts[1]? = some u) (hd : P.underlying u = some d) (hz : notInt d = true) (hs : sizeOfT P e = some size)
    (hl : ∀ w, (Builtin.lenOf y').run P w = .ok k w) (hn : (Builtin.firstCells size k y').run P { w with drawn := w.drawn + 1 } = .ok ⟨new'⟩ { w with drawn := w.drawn + 1 })
    (ho : (Builtin.firstCells size n (.slice base n c)).run P { w with drawn := w.drawn + 1 } = .ok ⟨old'⟩ { w with drawn := w.drawn + 1 })
    (hle : ¬ n + k ≤ c) (hsm : (2 * (n + k) + 768) * ti.bytes ≤ 281474976710656) (hti : P.info? e = some ti) (hby : n + k ≤ 4611686018427387904) (hzv : ti.zero = some z) :
    ∃ cp, n + k ≤ cp ∧ (Builtin.append_ ts ty ⟨[.slice base n c, y']⟩).run P w = .ok (.slice (some ⟨w.heap.size, 0, none⟩) (n + k) cp) { w with drawn := w.drawn + 1, heap := w.heap.push (.cells (⟨old'⟩ ++ ⟨new'⟩ ++ Builtin.zeroCells z.cells (cp - (n + k))) e) } := by
  have hmx : ¬ (((n + k : Nat) : Int) > IntKind.i64.max) := by
    intro h
    have : IntKind.i64.max = 9223372036854775807 := by decide
    rw [this] at h
    omega
  have hnx : ¬ (Builtin.nextslicecap (n + k) c * ti.bytes > 2 ^ 48) := by
    have h1 := nextcap_le (show c < n + k by omega)
    have h2 : Builtin.nextslicecap (n + k) c * ti.bytes ≤ (2 * (n + k) + 768) * ti.bytes := Nat.mul_le_mul_right _ h1
    omega
  have hty : ∀ w : World, (typeInfo e).run P w = .ok ti w := fun w => by simp [typeInfo, hti]
  refine ⟨(Question.appendCap (n + k) c e).cut (w.tape w.drawn (.appendCap (n + k) c e)), Nat.le_add_right _ _, ?_⟩
  have hzr : ∀ w : World, (zeroValue e).run P w = .ok z w := fun w => by simp [zeroValue, typeInfo, hti, hzv]
  cases d <;> first | (cases hz; done) | skip
  all_goals
    simp only [Builtin.append_, Sem.run_bind, Sem.run_pure, Result.andThen_ok, h0, h1, List.getElem?_toArray, List.getElem?_cons_zero, List.getElem?_cons_succ, run_underlying hu, run_underlying hd, run_sizeOf w hs, Bool.false_eq_true, if_false, hl w, Bool.not_false, if_true, hle, hty, hmx, false_and, hnx, run_choose, Question.forced, run_askRoom, ho, hn, hzr, newRow, run_newObj]
end
end Go.Ev
/-
  How a list of bytes lies in memory, told by the index.
-/
namespace Go.Proofs.YtdibpdpcbnijeaaGreatDoor.Dg
open Go.RowKit
theorem Tryz.info5 : (Tryz.prog.info? 5).map (fun i => (i.zero, i.size, i.bytes)) = some (some (.int .u8 0), 1, 1) := by kernel_rfl
/-- THE SLICE VALUE v HOLDS n BYTES, Z i AT PLACE i. -/
structure View (w : World) (a : Option Addr) (b off n : Nat) (Z : Nat → Int) : Prop where
  at_ : 0 < n → a = some ⟨b, off, none⟩
  cell : ∀ i, i < n → w.cell? ⟨b, off + i, none⟩ = some (.int .u8 (Z i))
  bd : ∀ i, i < n → 0 ≤ Z i ∧ Z i ≤ 255
  len : n ≤ 281474976710656
theorem View.lt {w : World} {a : Option Addr} {b off n : Nat} {Z : Nat → Int} (h : View w a b off n Z) (hn : 0 < n) : b < w.heap.size :=
  World.block_lt_of_cell? _ _ (h.cell 0 hn)
theorem View.of_cells {w w' : World} {a : Option Addr} {b off n : Nat} {Z : Nat → Int} (h : View w a b off n Z) (hc : ∀ p : Addr, p.block < w.heap.size → w'.cell? p = w.cell? p) : View w' a b off n Z :=
  ⟨h.at_, fun i hi => (hc _ (h.lt (by omega))).trans (h.cell i hi), h.bd, h.len⟩
theorem View.drewN {w : World} {a : Option Addr} {b off n : Nat} {Z : Nat → Int} (h : View w a b off n Z) (q : Nat) : View (w.drewN q) a b off n Z :=
  h.of_cells fun p _ => by simp
theorem View.below {w w' : World} {a : Option Addr} {b off n : Nat} {Z : Nat → Int} (h : View w a b off n Z) (hb : Below w.heap.size w w') : View w' a b off n Z :=
  h.of_cells fun _ hp => hb.cell hp
theorem View.congr {w : World} {a : Option Addr} {b off n : Nat} {Z Y : Nat → Int} (h : View w a b off n Z) (e : ∀ i, i < n → Z i = Y i) : View w a b off n Y :=
  ⟨h.at_, fun i hi => by rw [← e i hi]; exact h.cell i hi, fun i hi => by rw [← e i hi]; exact h.bd i hi, h.len⟩
end Go.Proofs.YtdibpdpcbnijeaaGreatDoor.Dg
/-
  Words turned right: the program's and the reference's way.
-/
namespace Go.Proofs.YtdibpdpcbnijeaaGreatDoor.Dg
open Go.RowKit
/-- a word turned right by n bits -/
def rot (x n : Nat) : Nat := (x >>> n) ||| ((x <<< (32 - n)) % 4294967296)
theorem rot_lt {x : Nat} (n : Nat) (hx : x < 4294967296) : rot x n < 4294967296 := by
  unfold rot
  refine Nat.or_lt_two_pow (n := 32) ?_ (Nat.mod_lt _ (by decide))
  rw [Nat.shiftRight_eq_div_pow]
  exact Nat.lt_of_le_of_lt (Nat.div_le_self _ _) hx
theorem turn_or (x n : Nat) (hx : x < 4294967296) : bits .or .u32 ((x : Int) / 2 ^ n) ((x : Int) * 2 ^ (32 - n) % 4294967296) = ((rot x n : Nat) : Int) := by
  have e1 : (x : Int) / 2 ^ n = ((x >>> n : Nat) : Int) := by rw [Nat.shiftRight_eq_div_pow]; simp
  have e2 : (x : Int) * 2 ^ (32 - n) % 4294967296 = (((x <<< (32 - n)) % 4294967296 : Nat) : Int) := by rw [Nat.shiftLeft_eq]; simp
  rw [e1, e2]
  refine u32_or_nat _ _ ?_ (Nat.mod_lt _ (by decide))
  rw [Nat.shiftRight_eq_div_pow]
  exact Nat.lt_of_le_of_lt (Nat.div_le_self _ _) hx
theorem turn_or' (x n : Nat) (hx : x < 4294967296) : bits .or .u32 ((x : Int) * 2 ^ (32 - n) % 4294967296) ((x : Int) / 2 ^ n) = ((rot x n : Nat) : Int) := by
  rw [← turn_or x n hx]
  simp only [bits, BitVec.or_comm]
theorem left_count : ∀ n : Nat, n < 32 → 1 ≤ n → bits .and .u64 (IntKind.u64.wrap (-(n : Int))) 31 = ((32 - n : Nat) : Int) := by decide
set_option maxHeartbeats 400000 in
theorem left_any (w : World) (x : Nat) (n : Nat) (h2 : x < 4294967296) (hn : 1 ≤ n) (hm : n ≤ 31) :
    Calls Tryz.prog 147 #[.int .u32 x, .int .i64 (-(n : Int))] w fun e w' => e = .returned (.int .u32 (rot x n)) ∧ w' = w := by
  have hc := left_count n (by omega) hn
  obtain ⟨m, hm'⟩ : ∃ m, m = 32 - n := ⟨_, rfl⟩
  have h3 : Hid (n = 32 - m) := by show n = 32 - m; omega
  have h5 : m + n ≤ 32 := by omega
  have h6 : 32 ≤ m + n := by omega
  rw [← hm'] at hc
  have h4 : m ≤ 31 := by omega
  clear hm'
  go_enter Tryz.func147, Tryz.ntmps147
  go_wp2
  have e1 := turn_or' x n h2
  rw [show 32 - n = m by omega] at e1
  rw [show 32 - m = n by omega, e1]
  go_ret
  exact ⟨rfl, rfl⟩
set_option maxHeartbeats 400000 in
theorem rotR_any (w : World) (x : Nat) (n : Nat) (h2 : x < 4294967296) (hn : 1 ≤ n) (hm : n ≤ 31) :
    Calls Tryz.prog 135 #[.int .u32 x, .int .i64 (n : Int)] w fun e w' => e = .returned (.int .u32 (rot x n)) ∧ w' = w := by
  have c := left_any w x n h2 hn hm
  go_enter Tryz.func135, Tryz.ntmps135
  go_wp2_with (refine c.mono ?_; rintro _ _ ⟨rfl, rfl⟩)
  go_ret
  exact ⟨rfl, rfl⟩
end Go.Proofs.YtdibpdpcbnijeaaGreatDoor.Dg
/-
  The sum, plainly: words are natural numbers below 2^32. No program.
-/
namespace Go.Proofs.YtdibpdpcbnijeaaGreatDoor.Dg
def M : Nat := 4294967296
/-- the words of a block: B i are its bytes -/
def be (B : Nat → Nat) (t : Nat) : Nat := ((B (4 * t) <<< 24 ||| B (4 * t + 1) <<< 16) ||| B (4 * t + 2) <<< 8) ||| B (4 * t + 3)
def s0 (x : Nat) : Nat := (rot x 7 ^^^ rot x 18) ^^^ (x >>> 3)
def s1 (x : Nat) : Nat := (rot x 17 ^^^ rot x 19) ^^^ (x >>> 10)
def wnew (a b c d : Nat) : Nat := (((s1 a + b) % M + s0 c) % M + d) % M
def sched (B : Nat → Nat) (t : Nat) : Nat :=
  if t < 16 then be B t else wnew (sched B (t - 2)) (sched B (t - 7)) (sched B (t - 15)) (sched B (t - 16))
termination_by t
decreasing_by all_goals omega
structure W8 where
  a : Nat
  b : Nat
  c : Nat
  d : Nat
  e : Nat
  f : Nat
  g : Nat
  h : Nat
def big1 (e : Nat) : Nat := (rot e 6 ^^^ rot e 11) ^^^ rot e 25
def big0 (a : Nat) : Nat := (rot a 2 ^^^ rot a 13) ^^^ rot a 22
def pick (e f g : Nat) : Nat := (e &&& f) ^^^ ((4294967295 ^^^ e) &&& g)
def most (a b c : Nat) : Nat := ((a &&& b) ^^^ (a &&& c)) ^^^ (b &&& c)
def t1 (s : W8) (k w : Nat) : Nat := ((((s.h + big1 s.e) % M + pick s.e s.f s.g) % M + k) % M + w) % M
def t2 (s : W8) : Nat := (big0 s.a + most s.a s.b s.c) % M
def turn1 (s : W8) (k w : Nat) : W8 := ⟨(t1 s k w + t2 s) % M, s.a, s.b, s.c, (s.d + t1 s k w) % M, s.e, s.f, s.g⟩
def turns (K W : Nat → Nat) (s : W8) : Nat → W8
  | 0 => s
  | t + 1 => turn1 (turns K W s t) (K t) (W t)
def plus (s r : W8) : W8 := ⟨(s.a + r.a) % M, (s.b + r.b) % M, (s.c + r.c) % M, (s.d + r.d) % M, (s.e + r.e) % M, (s.f + r.f) % M, (s.g + r.g) % M, (s.h + r.h) % M⟩
def KL : List Nat := [1116352408, 1899447441, 3049323471, 3921009573, 961987163, 1508970993, 2453635748, 2870763221, 3624381080, 310598401, 607225278, 1426881987, 1925078388, 2162078206, 2614888103, 3248222580, 3835390401, 4022224774, 264347078, 604807628, 770255983, 1249150122, 1555081692, 1996064986, 2554220882, 2821834349, 2952996808, 3210313671, 3336571891, 3584528711, 113926993, 338241895, 666307205, 773529912, 1294757372, 1396182291, 1695183700, 1986661051, 2177026350, 2456956037, 2730485921, 2820302411, 3259730800, 3345764771, 3516065817, 3600352804, 4094571909, 275423344, 430227734, 506948616, 659060556, 883997877, 958139571, 1322822218, 1537002063, 1747873779, 1955562222, 2024104815, 2227730452, 2361852424, 2428436474, 2756734187, 3204031479, 3329325298]
def K (t : Nat) : Nat := KL.getD t 0
def fold1 (s : W8) (B : Nat → Nat) : W8 := plus s (turns K (sched B) s 64)
def H0 : W8 := ⟨1779033703, 3144134277, 1013904242, 2773480762, 1359893119, 2600822924, 528734635, 1541459225⟩
structure Ok8 (s : W8) : Prop where
  a : s.a < 4294967296
  b : s.b < 4294967296
  c : s.c < 4294967296
  d : s.d < 4294967296
  e : s.e < 4294967296
  f : s.f < 4294967296
  g : s.g < 4294967296
  h : s.h < 4294967296
theorem turn1_ok {s : W8} (h : Ok8 s) (k w : Nat) : Ok8 (turn1 s k w) :=
  ⟨Nat.mod_lt _ (by decide), h.a, h.b, h.c, Nat.mod_lt _ (by decide), h.e, h.f, h.g⟩
theorem turns_ok {s : W8} (h : Ok8 s) (K W : Nat → Nat) : ∀ t, Ok8 (turns K W s t)
  | 0 => h
  | t + 1 => turn1_ok (turns_ok h K W t) _ _
theorem plus_ok (s r : W8) : Ok8 (plus s r) :=
  ⟨Nat.mod_lt _ (by decide), Nat.mod_lt _ (by decide), Nat.mod_lt _ (by decide), Nat.mod_lt _ (by decide), Nat.mod_lt _ (by decide), Nat.mod_lt _ (by decide), Nat.mod_lt _ (by decide), Nat.mod_lt _ (by decide)⟩
theorem fold1_ok (s : W8) (B : Nat → Nat) : Ok8 (fold1 s B) := plus_ok _ _
theorem H0_ok : Ok8 H0 := ⟨by decide, by decide, by decide, by decide, by decide, by decide, by decide, by decide⟩
theorem K_lt (t : Nat) (h : t < 64) : K t < 4294967296 := by
  have : ∀ t, t < 64 → K t < 4294967296 := by decide
  exact this t h
theorem be_lt {B : Nat → Nat} (hB : ∀ i, B i < 256) (t : Nat) : be B t < 4294967296 := by
  unfold be
  have sh : ∀ x n : Nat, x < 256 → n ≤ 24 → x <<< n < 2 ^ 32 := by
    intro x n hx hn
    rw [Nat.shiftLeft_eq]
    calc x * 2 ^ n < 2 ^ 8 * 2 ^ n := Nat.mul_lt_mul_of_pos_right (by simpa using hx) (Nat.two_pow_pos n)
      _ = 2 ^ (8 + n) := by rw [Nat.pow_add]
      _ ≤ 2 ^ 32 := Nat.pow_le_pow_right (by decide) (by omega)
  have e : (4294967296 : Nat) = 2 ^ 32 := by decide
  rw [e]
  refine Nat.or_lt_two_pow (Nat.or_lt_two_pow (Nat.or_lt_two_pow (sh _ _ (hB _) (by decide)) (sh _ _ (hB _) (by decide))) (sh _ _ (hB _) (by decide))) ?_
  exact Nat.lt_of_lt_of_le (hB _) (by decide)
theorem sched_lt {B : Nat → Nat} (hB : ∀ i, B i < 256) (t : Nat) : sched B t < 4294967296 := by
  unfold sched
  split
  · exact be_lt hB t
  · exact Nat.mod_lt _ (by decide)
theorem sched_low (B : Nat → Nat) {t : Nat} (h : t < 16) : sched B t = be B t := by
  rw [sched, if_pos h]
theorem sched_high (B : Nat → Nat) {t : Nat} (h : 16 ≤ t) : sched B t = wnew (sched B (t - 2)) (sched B (t - 7)) (sched B (t - 15)) (sched B (t - 16)) := by
  rw [sched, if_neg (by omega)]
theorem be_congr {B C : Nat → Nat} (h : ∀ i, i < 64 → B i = C i) {t : Nat} (ht : t < 16) : be B t = be C t := by
  unfold be
  rw [h _ (by omega), h _ (by omega), h _ (by omega), h _ (by omega)]
theorem sched_congr {B C : Nat → Nat} (h : ∀ i, i < 64 → B i = C i) (t : Nat) : sched B t = sched C t := by
  induction t using Nat.strongRecOn with
  | _ t ih =>
    by_cases ht : t < 16
    · rw [sched_low B ht, sched_low C ht, be_congr h ht]
    · rw [sched_high B (by omega), sched_high C (by omega), ih _ (by omega), ih _ (by omega), ih _ (by omega), ih _ (by omega)]
theorem fold1_congr {B C : Nat → Nat} (h : ∀ i, i < 64 → B i = C i) (s : W8) : fold1 s B = fold1 s C := by
  unfold fold1
  rw [show sched B = sched C from funext (sched_congr h)]
end Go.Proofs.YtdibpdpcbnijeaaGreatDoor.Dg
