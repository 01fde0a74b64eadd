import Derived.Test.YtgglbjnfbfpiiaaGreatDoorF3zz
/-
  The evaluator: the operations that change memory.
-/
namespace Go.Ev
open Go
section
variable {P : Program} {E : En}
theorem cellsFrom_sound {N : Nat} {s : St} {w : World} (h : Rel N E s w) {size n : Nat} {y y' : Value} {cs : List Value} (hy : VR E y y') (hc : cellsFrom s size n y = some cs) :
    ∃ cs', VRs E cs cs' ∧ (Builtin.firstCells size n y').run P w = .ok ⟨cs'⟩ w := by
  cases y with
  | slice q l c =>
    cases q with
    | none =>
      have hc' : cond (Nat.beq n 0) (some []) none = some cs := hc
      cases en : Nat.beq n 0 with
      | false => rw [en] at hc'; cases hc'
      | true =>
        rw [en] at hc'
        cases hc'
        obtain rfl := plain_eq 1 _ _ rfl hy
        exact ⟨[], .nil, rfl⟩
    | some a =>
      obtain ⟨b, off, sp⟩ := a
      cases sp with
      | none =>
        obtain ⟨_, c', rfl, _⟩ := hy.sl_inv
        obtain ⟨r', k1, k2, k3⟩ := readAt_run (P := P) h.obs (show readAt s b off (Nat.mul n size) = _ from hc)
        exact ⟨r', k1, k3⟩
      | some z =>
        have hc' : cond (Nat.beq n 0) (some []) none = some cs := hc
        cases en : Nat.beq n 0 with
        | false => rw [en] at hc'; cases hc'
        | true =>
          rw [en] at hc'
          cases hc'
          have hn : n = 0 := Nat.eq_of_beq_eq_true en
          subst hn
          obtain ⟨a', c', rfl, ha⟩ := hy.slice_any
          cases a' with
          | none => cases ha
          | some a' => exact ⟨[], .nil, by simp [Builtin.firstCells, loadCells, loadCellsFrom]⟩
  | string t =>
    have hc' : cond (Nat.beq size 1 && Nat.ble n t.size) (some ((t.extract 0 n).data.toList.map fun b => Value.int .u8 b.toNat)) none = some cs := hc
    cases hq : (Nat.beq size 1 && Nat.ble n t.size) with
    | false => rw [hq] at hc'; cases hc'
    | true =>
    rw [hq] at hc'
    cases hc'
    obtain rfl := hy.str_inv
    refine ⟨_, VRs.self (p := plain 1) (plain_VR E 1) _ (by rw [List.all_map]; exact List.all_eq_true.2 fun _ _ => rfl), ?_⟩
    simp only [Builtin.firstCells, Sem.run_pure]
    congr 1
    apply Array.ext'
    simp
  | _ => cases hc
theorem lenOfV_sound {y y' : Value} {k : Nat} (hy : VR E y y') (h : lenOfV y = some k) (w : World) : (Builtin.lenOf y').run P w = .ok k w := by
  cases y with
  | slice q l c => cases h; obtain ⟨a', c', rfl, _⟩ := hy.slice_any; rfl
  | string t => cases h; obtain rfl := hy.str_inv; rfl
  | _ => cases h
theorem firstCells_len {size n : Nat} {cs cs' : List Value} (hv : VRs E cs cs') (hl : cs.length = n * size) : cs'.length = n * size := by rw [← hv.length]; exact hl
/-- What an operation that acts comes to. -/
inductive ActR (N : Nat) (P : Program) (E : En) (s : St) (w : World) (m : Sem Next) : Nx → St → Prop
  | val (v v' : Value) (E' : En) (s' : St) (w' : World) : Stp N E s w E' s' w' → VR E' v v' → m.run P w = .ok (.value v') w' → ActR N P E s w m (.val v) s'
  | skip (E' : En) (s' : St) (w' : World) : Stp N E s w E' s' w' → m.run P w = .ok .skip w' → ActR N P E s w m (.val undef) s'
  | enter (f : FuncId) (args args' : List Value) : VRs E args args' → m.run P w = .ok (.enter f ⟨args'⟩) w → ActR N P E s w m (.enter f args) s
  | round (l : Nat) (args args' : List Value) : l < E.nx → VRs E args args' → m.run P w = (Instr.yield (E.ι l) ⟨args'⟩).run P w → ActR N P E s w m (.round l args) s
  | defer (d d' : Deferred) : DfR E d d' → m.run P w = .ok (.defer d') w → ActR N P E s w m (.defer d) s
  | recover : m.run P w = .ok .recover w → ActR N P E s w m .recover s
theorem ofS_ok {o : Option St} {x : Nx} {s' : St} (h : ofS o = .ok x s') : o = some s' ∧ x = .val undef := by
  cases o with
  | none => cases h
  | some s => cases h; exact ⟨rfl, rfl⟩
theorem act_store {N : Nat} {s s' : St} {w : World} (h : Rel N E s w) {t : TypeId} {a a' b b' : Value} {x : Nx} (ha : VR E a a') (hb : VR E b b') (hx : xStore P t a (cellsL b) s = .ok x s') :
    ActR N P E s w (do Instr.storeAt t a' b'; pure .skip) x s' := by
  unfold xStore at hx
  split at hx
  case h_2 => cases hx
  rename_i bk off cs hcs
  obtain ⟨_, rfl⟩ := ha.ptr_inv
  split at hx
  case h_2 => cases hx
  rename_i n hn
  cases e : Nat.beq cs.length n with
  | false => rw [e] at hx; cases hx
  | true =>
    rw [e] at hx
    obtain ⟨h1, rfl⟩ := ofS_ok (show ofS (writeAt s bk off cs) = .ok x s' from hx)
    have hl := Nat.eq_of_beq_eq_true e
    have hv := cellsL_sound hb hcs
    obtain ⟨w', k1, k2⟩ := stp_write P h h1 hv
    refine .skip E s' w' k2 ?_
    have hsz : b'.cells.size = n := by rw [← Array.length_toList, ← hv.length]; exact hl
    simp only [Instr.storeAt, Instr.sureAddr, storeVar, Sem.run_bind, Sem.run_pure, Result.andThen_ok, run_sizeOf w hn, hsz, ne_eq, not_true_eq_false, if_false, k1]
theorem act_copy {N : Nat} {s s' : St} {w : World} (h : Rel N E s w) {ts : Array TypeId} {ty t : TypeId} {e : TypeId} {a a' b b' : Value} {x : Nx} (h0 : ts[0]? = some t) (hu : P.underlying t = some (.slice e)) (ha : VR E a a') (hb : VR E b b')
    (hx : copyV P s e a b = .ok x s') : ActR N P E s w (do pure (.value (← Builtin.copy_ ts ty ⟨[a', b']⟩))) x s' := by
  unfold copyV at hx
  split at hx
  case h_2 => cases hx
  rename_i size base n c k hs hk
  rw [fN_eq] at hx
  split at hx
  case h_1 => cases hx
  rename_i new hnew
  obtain ⟨new', hv, hrun⟩ := cellsFrom_sound (P := P) h hb hnew
  have hlen := lenOfV_sound (P := P) hb hk w
  obtain ⟨q', c', rfl, hq⟩ := ha.slice_any
  have fin : ∀ w', ((match q' with
      | some a => storeCells a new'
      | none => pure ()) : Sem Unit).run P w = .ok () w' → (do pure (Next.value (← Builtin.copy_ ts ty ⟨[.slice q' n c', b']⟩)) : Sem Next).run P w = .ok (.value (.int .i64 (.ofNat (Nat.min k n)))) w' := by
    intro w' hw
    simp only [Builtin.copy_, Sem.run_bind, Sem.run_pure, Result.andThen_ok, h0, List.getElem?_toArray, List.getElem?_cons_zero, List.getElem?_cons_succ, run_underlying hu, hlen, run_sizeOf w hs, hrun]
    cases q' with
    | none => cases hw; rfl
    | some q =>
      simp only at hw
      simp only [Sem.run_bind, hw, Result.andThen_ok, Sem.run_pure]
      rfl
  split at hx
  · rename_i b0 off
    obtain ⟨_, c2, e2, _⟩ := ha.sl_inv
    cases e2
    split at hx
    · rename_i s1 hw1
      cases hx
      obtain ⟨w', k1, k2⟩ := stp_write P h hw1 hv
      exact .val _ _ E s' w' k2 (.int _ _) (fin w' k1)
    · cases hx
  · rename_i hnb
    cases en : Nat.beq (Nat.min k n) 0 with
    | false => rw [en] at hx; cases hx
    | true =>
      rw [en] at hx
      cases hx
      have hm : Nat.min k n = 0 := Nat.eq_of_beq_eq_true en
      rw [hm] at fin hnew
      have hn0 : new' = [] := by
        have : new = [] := by
          cases b with
          | slice q l c =>
            cases q with
            | none => cases hnew; rfl
            | some a =>
              obtain ⟨b1, o1, sp⟩ := a
              cases sp with
              | none =>
                obtain ⟨hp, nx, gr⟩ := s
                have : readOb o1 (Nat.mul 0 size) (hp.get b1) = some new := hnew
                rw [show Nat.mul 0 size = 0 from Nat.zero_mul size] at this
                unfold readOb at this
                split at this <;> first | (cases this; rfl) | (cases this; done)
              | some z => cases hnew; rfl
          | string t =>
            have hc' : cond (Nat.beq size 1 && Nat.ble 0 t.size) (some ((t.extract 0 0).data.toList.map fun b => Value.int .u8 b.toNat)) none = some new := hnew
            cases hq : (Nat.beq size 1 && Nat.ble 0 t.size) with
            | false => rw [hq] at hc'; cases hc'
            | true => rw [hq] at hc'; cases hc'; simp
          | _ => cases hnew
        subst this
        cases hv; rfl
      subst hn0
      exact .val _ _ E s w (.refl h) (.int _ _) (fin w (by cases q' <;> simp [storeCells]))
end
end Go.Ev
