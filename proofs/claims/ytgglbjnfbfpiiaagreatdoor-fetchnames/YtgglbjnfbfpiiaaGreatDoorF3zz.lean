import Derived.Test.YtgglbjnfbfpiiaaGreatDoorF2zz
/-
  The evaluator: the operations that make memory.
-/
namespace Go.Ev
open Go
/-- A new thing, wherever it comes to lie. -/
def _root_.Go.Obj.cellsN : Obj → Nat
  | .cells c _ _ => c.size
  | _ => 0
structure Mkd (E : En) (o : Ob) (o' : Obj) (v v' : Nat → Value) (sz : Nat) : Prop where
  grp : o.grp = 0
  rw : o.rw
  szo : sz = o'.cellsN
  ob : ∀ (E2 : En) (A : Nat) (w2 : World), Ext E E2 → w2.heap[A]? = some o' → ObR (E2.push A 0 sz) E2.nx w2 o
  vr : ∀ (E2 : En) (A : Nat), Ext E E2 → VR (E2.push A 0 sz) (v E2.nx) (v' A)
theorem Mkd.row {E : En} {cs cs' : List Value} {c : Array Value} {t : TypeId} {fr : Nat × Nat} {v v' : Nat → Value} (hc : VRs E cs cs') (hp : ∀ (i : Nat) u, cs'[i]? = some u → c[i]? = some u) (ht : Thaw fr c.size)
    (hv : ∀ (E2 : En) (A : Nat), Ext E E2 → VR (E2.push A 0 c.size) (v E2.nx) (v' A)) : Mkd E (.row cs 0) (.cells c t fr) v v' c.size := by
  refine ⟨rfl, trivial, rfl, fun E2 A w2 X hw => ?_, hv⟩
  refine ⟨c, t, fr, by rw [En.push_ι]; exact hw, by rw [En.push_sz], ht, ?_⟩
  rw [En.push_sh]
  intro i u hu
  obtain ⟨u', h1, h2⟩ := hc.get hu
  exact ⟨u', by rw [Nat.zero_add]; exact hp i u' h1, (h2.ext X).ext (En.push_ext _ _ _ _)⟩
theorem thaw0 (n : Nat) : Thaw (0, 0) n := .inl rfl
theorem vr_pt (E2 : En) (A sz : Nat) : VR (E2.push A 0 sz) (.pointer (some ⟨E2.nx, 0, none⟩)) (.pointer (some ⟨A, 0, none⟩)) := by
  have := VR.ptr (E := E2.push A 0 sz) E2.nx 0 (Nat.lt_succ_self _)
  rw [En.push_ι, En.push_sh] at this
  exact this
theorem vr_slS (E2 : En) (A sz n c : Nat) : VR (E2.push A 0 sz) (.slice (some ⟨E2.nx, 0, none⟩) n (sure c)) (.slice (some ⟨A, 0, none⟩) n c) := by
  have := VR.slS (E := E2.push A 0 sz) E2.nx 0 n c (Nat.lt_succ_self _)
  rw [En.push_ι, En.push_sh] at this
  exact this
theorem vr_slM (E2 : En) (A sz n c' es : Nat) (hn : n < 2 ^ 64) (hc : n ≤ c') (hs : c' * es ≤ sz) : VR (E2.push A 0 sz) (.slice (some ⟨E2.nx, 0, none⟩) n (least n es)) (.slice (some ⟨A, 0, none⟩) n c') := by
  have := VR.slM (E := E2.push A 0 sz) E2.nx 0 n (least n es) c' (Nat.lt_succ_self _) (least_sure _ _) (by rw [capOf_least _ hn]; exact hc) (by rw [esOf_least _ hn, En.push_sh, En.push_sz]; omega)
  rw [En.push_ι, En.push_sh] at this
  exact this
section
variable {P : Program} {E : En}
theorem roomFor_some {P : Program} {e : TypeId} {m : Nat} {ti : TypeInfo} (h : roomFor P e m = true) (hti : P.info? e = some ti) : (5 * m + 3072) * ti.bytes ≤ 1125899906842624 ∧ m ≤ 4611686018427387904 := by
  unfold roomFor at h
  rw [hti] at h
  simp only [Bool.and_eq_true] at h
  exact ⟨Nat.le_of_ble_eq_true h.1, Nat.le_of_ble_eq_true h.2⟩
theorem newPt_ok {s s' : St} {cs : List Value} {x : Nx} (h : newPt s cs = .ok x s') : s.nx < s.nx + 1 ∧ x = .val (.pointer (some ⟨s.nx, 0, none⟩)) ∧ s' = .mk (s.hp.set (.row cs 0) s.nx) (s.nx + 1) s.gr := by
  unfold newPt at h
  cases e : newO s (.row cs 0) (fun b s => some (Re.ok (.val (.pointer (some ⟨b, 0, none⟩))) s)) with
  | none => rw [e] at h; cases h
  | some r =>
    rw [e] at h
    have hr : r = .ok x s' := h
    obtain ⟨h1, h2⟩ := newO_some e
    rw [hr] at h2
    cases h2
    exact ⟨h1, rfl, rfl⟩
theorem newSl_ok {s s' : St} {cs : List Value} {n c : Nat} {x : Nx} (h : newSl s cs n c = .ok x s') : s.nx < s.nx + 1 ∧ x = .val (.slice (some ⟨s.nx, 0, none⟩) n c) ∧ s' = .mk (s.hp.set (.row cs 0) s.nx) (s.nx + 1) s.gr := by
  unfold newSl at h
  cases e : newO s (.row cs 0) (fun b s => some (okSl b n c s)) with
  | none => rw [e] at h; cases h
  | some r =>
    rw [e] at h
    have hr : r = .ok x s' := h
    obtain ⟨h1, h2⟩ := newO_some e
    rw [hr] at h2
    have h3 := Option.some.inj h2
    unfold okSl at h3
    rw [fN_eq] at h3
    cases h3
    exact ⟨h1, rfl, rfl⟩
theorem newLs_ok {s s' : St} {cs : List Value} {n es : Nat} {x : Nx} (h : newLs s cs n es = .ok x s') : s.nx < s.nx + 1 ∧ n < 2 ^ 64 ∧ x = .val (.slice (some ⟨s.nx, 0, none⟩) n (least n es)) ∧ s' = .mk (s.hp.set (.row cs 0) s.nx) (s.nx + 1) s.gr := by
  unfold newLs at h
  cases e : newO s (.row cs 0) (fun b s => some (okLs b n es s)) with
  | none => rw [e] at h; cases h
  | some r =>
    rw [e] at h
    have hr : r = .ok x s' := h
    obtain ⟨h1, h2⟩ := newO_some e
    rw [hr] at h2
    have h3 := Option.some.inj h2
    unfold okLs at h3
    cases hn : Nat.blt n 18446744073709551616 with
    | false => rw [hn] at h3; cases h3
    | true =>
      rw [hn] at h3
      simp only [cond, okSl, fN_eq] at h3
      cases h3
      exact ⟨h1, Nat.le_of_ble_eq_true hn, rfl, rfl⟩
theorem rep_range (z : List Value) (n : Nat) (hz : z.length = n) (hn : 0 < n) : ∀ k, ((List.range (k * n)).map fun i => (z.toArray)[i % z.toArray.size]!) = (List.replicate k z).flatten := by
  intro k
  apply List.ext_getElem?
  intro i
  have hl : ((List.replicate k z).flatten).length = k * n := by simp [hz]
  have key : ∀ k i, i < k * n → ((List.replicate k z).flatten)[i]? = z[i % n]? := by
    intro k
    induction k with
    | zero => intro i h; omega
    | succ k ih =>
      intro i h
      rw [List.replicate_succ, List.flatten_cons, List.getElem?_append, hz]
      by_cases c : i < n
      · rw [if_pos c, Nat.mod_eq_of_lt c]
      · rw [if_neg c]
        have : (k + 1) * n = k * n + n := by rw [Nat.add_mul]; omega
        rw [ih (i - n) (by omega)]
        congr 1
        exact (Nat.mod_eq_sub_mod (by omega)).symm
  by_cases c : i < k * n
  · rw [key k i c]
    have hm : i % n < z.length := by rw [hz]; exact Nat.mod_lt _ hn
    simp [c, hz]
    rw [List.getElem?_eq_getElem hm]
    simp
  · rw [List.getElem?_eq_none (by simp; omega), List.getElem?_eq_none (by rw [hl]; omega)]
theorem range_zero (z : List Value) (n k : Nat) (hz : z.length = n) (h : k * n = 0) : ((Array.range (k * n)).map fun i => (#[] : Array Value)[i % (#[] : Array Value).size]!) = ⟨(List.replicate k z).flatten⟩ := by
  have : (List.replicate k z).flatten = [] := by
    apply List.eq_nil_of_length_eq_zero
    simp [hz, h]
  rw [this, h]
  simp
theorem range_cells (z : List Value) (n k : Nat) (hz : z.length = n) (h : k * n ≠ 0) {c : Array Value} (hc : c.toList = z) : ((Array.range (k * n)).map fun i => c[i % c.size]!) = ⟨(List.replicate k z).flatten⟩ := by
  have hn : 0 < n := Nat.pos_of_ne_zero fun e => h (by rw [e]; simp)
  have hvc : c = z.toArray := by apply Array.ext'; simpa using hc
  rw [← rep_range z n hz hn k, hvc]
  apply Array.ext'
  simp
theorem freeze_push (w : World) (c : Array Value) (e : TypeId) : (({ w with heap := w.heap.push (.cells c e) } : World).freeze ⟨w.heap.size, c.size, none⟩ 1).heap = w.heap.push (.cells c e (c.size, c.size + 1)) := by
  simp only [World.freeze]
  rw [if_neg (by decide)]
  apply Array.ext_getElem?
  intro k
  simp only [Array.getElem?_modify, Array.getElem?_push]
  by_cases h : w.heap.size = k
  · subst h; simp
  · rw [if_neg h]
    by_cases h2 : k = w.heap.size
    · exact absurd h2.symm h
    · rw [if_neg h2, if_neg h2]
theorem exec_makes {s s' : St} {tm : Tr Value} {ρ : Operand → Value} (o : Oper) (hρ : Seen E tm ρ o.op) (hk : kindOf P o.op = .makes) {x : Nx} (hx : exec P o.op tm s = .ok x s') :
    ∃ (ob : Ob) (v : Nat → Value), x = .val (v s.nx) ∧ s.nx < s.nx + 1 ∧ s' = .mk (s.hp.set ob s.nx) (s.nx + 1) s.gr ∧ ∀ w, ∃ w' o' v' sz, (execOp ρ o).run P w = .ok (.value (v' w.heap.size)) w' ∧ w'.heap = w.heap.push o' ∧
      w'.os = w.os ∧ w'.tape = w.tape ∧ w'.output = w.output ∧ Mkd E ob o' v v' sz := by
  obtain ⟨d0, op, type, pos, aft, guard⟩ := o
  simp only at hk hρ hx
  have hm : ∀ x, x ∈ op.operands.toList → VR E (opd tm x) (ρ x) := hρ
  cases op with
  | alloc e =>
    have hx' : xAlloc P e s = .ok x s' := hx
    unfold xAlloc at hx'
    split at hx'
    case h_2 => cases hx'
    rename_i z hz
    unfold xBox at hx'
    split at hx'
    case h_2 => cases hx'
    rename_i cs hcs
    obtain ⟨h1, h2, h3⟩ := newPt_ok hx'
    obtain ⟨v, hv, _, hzv, _⟩ := zeroCs_sound (P := P) (E := E) (t := e) (z := cs) (by unfold zeroCs; rw [hz]; exact hcs)
    refine ⟨_, fun b => .pointer (some ⟨b, 0, none⟩), h2, h1, h3, fun w => ⟨{ w with heap := w.heap.push (.cells v.cells e) }, .cells v.cells e, fun A => .pointer (some ⟨A, 0, none⟩), v.cells.size, ?_, rfl, rfl, rfl, rfl, ?_⟩⟩
    · simp [execOp, Instr.alloc, run_zeroValue w hv, newVar, newRow]
    · exact Mkd.row hzv (fun i u hu => by rw [Array.getElem?_toList] at hu; exact hu) (thaw0 _) fun E2 A X => vr_pt E2 A _
  | box e a =>
    have hx' : xBox (cellsL (opd tm a)) s = .ok x s' := hx
    unfold xBox at hx'
    split at hx'
    case h_2 => cases hx'
    rename_i cs hcs
    obtain ⟨h1, h2, h3⟩ := newPt_ok hx'
    have hv := cellsL_sound (hm a (by simp [Op.operands])) hcs
    refine ⟨_, fun b => .pointer (some ⟨b, 0, none⟩), h2, h1, h3, fun w => ⟨{ w with heap := w.heap.push (.cells (ρ a).cells e) }, .cells (ρ a).cells e, fun A => .pointer (some ⟨A, 0, none⟩), (ρ a).cells.size, ?_, rfl, rfl, rfl, rfl, ?_⟩⟩
    · simp [execOp, Instr.box, newVar, newRow]
    · exact Mkd.row hv (fun i u hu => by rw [Array.getElem?_toList] at hu; exact hu) (thaw0 _) fun E2 A X => vr_pt E2 A _
  | buildSlice t len ps =>
    have hx' : xBuildSl P t len ps.toList tm s = .ok x s' := hx
    unfold xBuildSl at hx'
    split at hx'
    case h_2 => cases hx'
    rename_i e hu
    split at hx'
    case h_2 => cases hx'
    rename_i n z hs hz
    cases hc : (Nat.beq z.length n && Nat.ble (Nat.mul len n) 16777216) with
    | false => rw [hc] at hx'; cases hx'
    | true =>
      rw [hc] at hx'
      simp only [Bool.and_eq_true] at hc
      have hzl := Nat.eq_of_beq_eq_true hc.1
      have hle : len * n ≤ 16777216 := Nat.le_of_ble_eq_true hc.2
      simp only [cond] at hx'
      split at hx'
      case h_2 => cases hx'
      rename_i cs hcs
      obtain ⟨h1, h2, h3⟩ := newSl_ok hx'
      obtain ⟨v, hv, hvv, hzv, hvz⟩ := zeroCs_sound (E := E) hz
      rw [repO_eq] at hcs
      obtain ⟨r', k1, k2, k3⟩ := fillP_sound ps.toList (fun y hy => hm y (by simpa [Op.operands] using hy)) _ _ _ (VRs.rep hzv len) hcs
      rw [hvz] at k3 k2
      refine ⟨_, fun b => .slice (some ⟨b, 0, none⟩) len (sure len), h2, h1, h3, fun w => ⟨{ w with heap := w.heap.push (.cells ⟨r'⟩ e) }, .cells ⟨r'⟩ e, fun A => .slice (some ⟨A, 0, none⟩) len len, r'.length, ?_, rfl, rfl, rfl, rfl, ?_⟩⟩
      · have hps : (ps.map fun (i, x) => (i, ρ x)).toList = ps.toList.map fun x => (x.1, ρ x.2) := by simp
        have k4 : Instr.fill (fun i => some (i * n, n)) ⟨(List.replicate len z).flatten⟩ (ps.toList.map fun x => (x.1, ρ x.2)) = some ⟨r'⟩ := k3
        simp only [execOp, Instr.buildSlice, Sem.run_bind, run_underlying hu, Result.andThen_ok, run_sizeOf w hs, show ¬ (len * n > 2 ^ 24) by omega, if_false, Sem.run_pure, hps]
        split
        · rename_i h0
          simp only [Sem.run_bind, Sem.run_pure, Result.andThen_ok, range_zero z n len hzl h0, k4]
          simp [newRow]
        · rename_i h0
          simp only [Sem.run_bind, Sem.run_pure, Result.andThen_ok, run_zeroValue w hv, range_cells z n len hzl h0 hvz, k4]
          simp [newRow]
      · exact Mkd.row (c := ⟨r'⟩) k1 (fun i u hu => by simpa using hu) (thaw0 _) fun E2 A X => vr_slS E2 A _ len len
  | makeSlice t l c =>
    have hx' : xMakeSl P t (opd tm l) (opd tm c) s = .ok x s' := hx
    unfold xMakeSl at hx'
    split at hx'
    case h_2 => cases hx'
    rename_i e ln cn hu hln hcn
    split at hx'
    case h_2 => cases hx'
    rename_i z hz
    cases hc : (Nat.ble ln cn && roomFor P e cn && sizedAs P e z) with
    | false => rw [hc] at hx'; cases hx'
    | true =>
      rw [hc] at hx'
      simp only [Bool.and_eq_true] at hc
      have hlc : ln ≤ cn := Nat.le_of_ble_eq_true hc.1.1
      have hc6 := hc.1.2
      have hsz := hc.2
      unfold sizedAs at hsz
      split at hsz
      case h_2 => cases hsz
      rename_i n hs
      simp only [Bool.and_eq_true] at hsz
      have hzl := Nat.eq_of_beq_eq_true hsz.1.1
      have hn : 0 < n := Nat.le_of_ble_eq_true hsz.1.2
      have hby := hsz.2
      unfold bytesSmall at hby
      split at hby
      case h_2 => cases hby
      rename_i ti hti
      have hcm : cn ≤ 4611686018427387904 := (roomFor_some hc6 hti).2
      obtain ⟨h1, h2, h3⟩ := newSl_ok (show newSl s (repO z cn) ln (sure cn) = .ok x s' from hx')
      obtain ⟨v, hv, hvv, hzv, hvz⟩ := zeroCs_sound (E := E) hz
      rw [repO_eq] at h3
      obtain ⟨k1, e1⟩ := natOf_some hln
      obtain ⟨k2, e2⟩ := natOf_some hcn
      have hl' := hm l (by simp [Op.operands])
      have hc' := hm c (by simp [Op.operands])
      rw [e1] at hl'
      rw [e2] at hc'
      have el := hl'.int_inv
      have ec := hc'.int_inv
      have hvc : v.cells = z.toArray := by apply Array.ext'; simpa using hvz
      refine ⟨_, fun b => .slice (some ⟨b, 0, none⟩) ln (sure cn), h2, h1, h3, fun w => ⟨{ w with heap := w.heap.push (.cells ⟨(List.replicate cn z).flatten⟩ e) }, .cells ⟨(List.replicate cn z).flatten⟩ e, fun A => .slice (some ⟨A, 0, none⟩) ln cn, (List.replicate cn z).flatten.length, ?_, rfl, rfl, rfl, rfl, ?_⟩⟩
      · have wl : IntKind.i64.wrap (Int.ofNat ln) = Int.ofNat ln := wrapN_sound (k := .i64) (n := ln) (m := ln) (by unfold wrapN; rw [show Nat.blt ln 9223372036854775808 = true from Nat.ble_eq_true_of_le (by omega)]; rfl)
        have wc : IntKind.i64.wrap (Int.ofNat cn) = Int.ofNat cn := wrapN_sound (k := .i64) (n := cn) (m := cn) (by unfold wrapN; rw [show Nat.blt cn 9223372036854775808 = true from Nat.ble_eq_true_of_le (by omega)]; rfl)
        have hbc : ti.bytes * cn ≤ 281474976710656 := by
          have := (roomFor_some hc6 hti).1
          have h3 : (4 * cn) * ti.bytes ≤ (5 * cn + 3072) * ti.bytes := Nat.mul_le_mul_right _ (by omega)
          rw [Nat.mul_assoc, Nat.mul_comm cn] at h3
          omega
        have hti' : (typeInfo e).run P w = .ok ti w := by simp [typeInfo, hti]
        have l1 : ¬ (Int.ofNat cn < 0) := fun h => by cases h
        have l2 : ¬ ((ti.bytes : Int) * Int.ofNat cn > 2 ^ 48) := by
          intro h
          have h2 : ((ti.bytes * cn : Nat) : Int) > 2 ^ 48 := by rw [Int.natCast_mul]; exact h
          omega
        have l3 : ¬ (Int.ofNat ln < 0) := fun h => by cases h
        have l4 : ¬ (Int.ofNat ln > Int.ofNat cn) := by
          intro h
          have : (cn : Int) < (ln : Int) := h
          omega
        have hlarge : (((decide (Int.ofNat cn < 0) || decide ((ti.bytes : Int) * Int.ofNat cn > 2 ^ 48)) || decide (Int.ofNat ln < 0)) || decide (Int.ofNat ln > Int.ofNat cn)) = false := by
          rw [decide_eq_false l1, decide_eq_false l2, decide_eq_false l3, decide_eq_false l4]; rfl
        simp only [execOp, Instr.makeSlice, Sem.run_bind, run_underlying hu, Result.andThen_ok, el, ec, asInt, asIntOf, Sem.run_pure, hti', wl, wc, hlarge, Bool.false_eq_true, if_false, run_askRoom, run_sizeOf w hs, show (Int.ofNat cn).toNat = cn from rfl, show (Int.ofNat ln).toNat = ln from rfl]
        split
        · rename_i h0
          simp only [Sem.run_bind, Sem.run_pure, Result.andThen_ok, range_zero z n cn hzl h0]
          simp [newRow]
        · rename_i h0
          simp only [Sem.run_bind, Sem.run_pure, Result.andThen_ok, run_zeroValue w hv, range_cells z n cn hzl h0 hvz]
          simp [newRow]
      · exact Mkd.row (c := ⟨(List.replicate cn z).flatten⟩) (by have := VRs.rep hzv cn; rw [hvz] at this; exact this) (fun i u hu => by simpa using hu) (thaw0 _) fun E2 A X => vr_slS E2 A _ ln cn
  | makeMap t r =>
    have hx' : xMakeMap r s = .ok x s' := hx
    unfold xMakeMap at hx'
    split at hx'
    case h_2 => cases hx'
    cases e : newO s (.map [] 0) (fun b s => some (Re.ok (.val (.map (some b))) s)) with
    | none => rw [e] at hx'; cases hx'
    | some q =>
      rw [e] at hx'
      have hr : q = .ok x s' := hx'
      obtain ⟨h1, h2⟩ := newO_some e
      rw [hr] at h2
      cases h2
      refine ⟨_, fun b => .map (some b), rfl, h1, rfl, fun w => ⟨{ w with heap := w.heap.push (.map #[] 0) }, .map #[] 0, fun A => .map (some A), 0, ?_, rfl, rfl, rfl, rfl, ?_⟩⟩
      · simp [execOp, Instr.makeMap]
      · refine ⟨rfl, trivial, rfl, fun E2 A w2 X hw => ⟨#[], by rw [En.push_ι]; exact hw, .nil⟩, fun E2 A X => ?_⟩
        have := VR.mp (E := E2.push A 0 0) E2.nx (Nat.lt_succ_self _)
        rw [En.push_ι] at this
        exact this
  | convert src dst a =>
    have ha := hm a (by simp [Op.operands])
    have hx' : xConv P src dst (opd tm a) s = .ok x s' := hx
    have hsd : P.underlying src = some .string ∧ ∃ e, P.underlying dst = some (.slice e) := by
      simp only [kindOf] at hk
      split at hk
      · cases hk
      · rename_i e hs hd; exact ⟨hs, e, hd⟩
      · cases hk
      · cases hk
      · cases hk
    obtain ⟨hs, e, hd⟩ := hsd
    unfold xConv at hx'
    split at hx'
    · rename_i k n hv
      rw [hv] at ha
      exfalso
      have hp : pureRun P (convert src dst (.int k n)) = none := by
        cases hq : pureRun P (convert src dst (.int k n)) with
        | none => rfl
        | some v =>
          have := pureRun_run hq (default : World)
          simp only [convert, Sem.run_bind, run_underlying hs, run_underlying hd, Result.andThen_ok] at this
          cases this
      have hno : intTo P src dst k n s (P.underlying dst) = .no := by
        unfold intTo
        rw [hd]
        simp only
        unfold ofPure
        rw [hp]
      rw [hno] at hx'
      cases hx'
    · rename_i t hv
      rw [hv] at ha
      have e1 := ha.str_inv
      rw [hs, hd] at hx'
      have hx2 : toBytes P e t s = .ok x s' := hx'
      unfold toBytes at hx2
      cases hu : isU8 (P.underlying e) with
      | false => rw [hu] at hx2; cases hx2
      | true =>
        rw [hu] at hx2
        have hu' : P.underlying e = some (.int .u8) := by
          unfold isU8 at hu
          split at hu
          · assumption
          · cases hu
        obtain ⟨h1, h1', h2, h3⟩ := newLs_ok (show newLs s (t.data.toList.map fun b => .int .u8 b.toNat) t.size 1 = .ok x s' from hx2)
        refine ⟨_, fun b => .slice (some ⟨b, 0, none⟩) t.size (least t.size 1), h2, h1, h3, fun w => ?_⟩
        have hcap : t.size ≤ (Question.appendCap t.size 0 e).cut (w.tape w.drawn (.appendCap t.size 0 e)) := Nat.le_add_right _ _
        generalize hcp : (Question.appendCap t.size 0 e).cut (w.tape w.drawn (.appendCap t.size 0 e)) = cp at hcap
        have hts : t.data.size = t.size := rfl
        obtain ⟨c, hc⟩ : ∃ c : Array Value, c = (t.data.map fun b => .int .u8 b.toNat) ++ Array.replicate (cp - t.size) (.int .u8 0) := ⟨_, rfl⟩
        have hcs : c.size = cp := by rw [hc]; simp only [Array.size_append, Array.size_map, Array.size_replicate, hts]; omega
        refine ⟨(({ ({ w with drawn := w.drawn + 1 } : World) with heap := w.heap.push (.cells c e) } : World).freeze ⟨w.heap.size, c.size, none⟩ 1), .cells c e (c.size, c.size + 1), fun A => .slice (some ⟨A, 0, none⟩) t.size cp, c.size, ?_, freeze_push ({ w with drawn := w.drawn + 1 } : World) c e, ?_, ?_, ?_, ?_⟩
        · have hsh : (({ ({ w with drawn := w.drawn + 1 } : World) with heap := w.heap.push (.cells c e) } : World).shape? w.heap.size) = some (e, c.size) := by simp [World.shape?]
          simp only [execOp, convert, Sem.run_bind, run_underlying hs, run_underlying hd, Result.andThen_ok, e1, run_underlying hu', Conv.stringToBytes, run_choose, Question.forced, Bool.false_eq_true, if_false, hcp, ← hc, newRow, run_newObj, Sem.run_pure, markStringish, run_shape, hsh, run_freeze]
        · simp only [World.freeze]; split <;> rfl
        · simp only [World.freeze]; split <;> rfl
        · simp only [World.freeze]; split <;> rfl
        · refine Mkd.row (cs' := t.data.toList.map fun b => .int .u8 b.toNat) (VRs.self (p := plain 1) (plain_VR E 1) _ (by rw [List.all_map]; exact List.all_eq_true.2 fun _ _ => rfl)) (fun i u hu => ?_) (.inr (Nat.le_refl _)) fun E2 A X => vr_slM E2 A _ t.size cp 1 h1' hcap (by rw [hcs]; omega)
          rw [hc, Array.getElem?_append_left (by have := getElem?_lt hu; simpa using this)]
          simpa using hu
    · simp only [hs, hd] at hx'; cases hx'
    · simp only [hs, hd] at hx'; cases hx'
    · cases hx'
  | call c =>
    obtain ⟨callee, args, ts⟩ := c
    cases callee with
    | builtin b => cases b with
      | len => simp only [kindOf] at hk; split at hk <;> cases hk
      | _ => cases hk
    | value f => cases hk
    | invoke r name => cases hk
  | _ => cases hk
end
end Go.Ev
