import Derived.Test.YtgglbjnfbfpiiaaGreatDoorE9zz
/-
  The evaluator: the operations that need no memory.
-/
namespace Go.Ev
open Go
section
variable {P : Program} {E : En}
theorem zeroCs_sound {t : TypeId} {z : List Value} (h : zeroCs P t = some z) : ∃ v, zeroOf P t = some v ∧ VR E v v ∧ VRs E z v.cells.toList ∧ v.cells.toList = z := by
  unfold zeroCs at h
  split at h
  · rename_i v hv
    unfold cellsP at h
    cases hp : plain 5 v with
    | false => rw [hp] at h; cases h
    | true =>
      rw [hp] at h
      have hc : cellsL v = some z := h
      have hvv := plain_VR E 5 v hp
      refine ⟨v, hv, hvv, cellsL_sound hvv hc, ?_⟩
      unfold cellsL at hc
      split at hc
      · cases hc; rfl
      · cases hc
      · cases hc
      · rename_i h1 h2 h3
        rw [fV_eq] at hc
        cases hc
        cases v <;> first | rfl | (exact absurd rfl (h1 _)) | (exact absurd rfl (h2 _)) | (exact absurd rfl (h3 _))
  · cases h
theorem run_places (w : World) : ∀ (fs : List Field), sized P fs = true → ∃ l : List (Nat × Nat), (fs.mapM (m := Sem) fun f => do pure (f.offset, ← sizeOf f.type)).run P w = .ok l w ∧ ∀ i, l[i]? = places P fs i
  | [], _ => ⟨[], by simp, fun i => by simp [places]⟩
  | f :: fs, h => by
    simp only [sized, List.all_cons, Bool.and_eq_true] at h
    obtain ⟨n, hn⟩ := Option.isSome_iff_exists.1 h.1
    obtain ⟨l, h1, h2⟩ := run_places w fs h.2
    refine ⟨(f.offset, n) :: l, ?_, fun i => ?_⟩
    · rw [List.mapM_cons]
      simp only [Sem.run_bind, run_sizeOf w hn, Result.andThen_ok, Sem.run_pure, h1]
    · cases i with
      | zero => simp [places, hn]
      | succ i => simpa [places] using h2 i
theorem xBuild_sound {tm : Tr Value} {ρ : Operand → Value} (t : TypeId) (ps : Array (Nat × Operand)) (hρ : ∀ x ∈ ps.toList.map (·.2), VR E (opd tm x) (ρ x)) :
    PuY P E (fun s => xBuild P t ps.toList tm s) (Instr.build t (ps.map fun (i, x) => (i, ρ x))) := by
  have hps : (ps.map fun (i, x) => (i, ρ x)).toList = ps.toList.map fun (i, x) => (i, ρ x) := by simp
  have fin : ∀ {o : Option (List Value)} {m : Sem Value}, (∀ r, o = some r → ∃ r', VRs E r r' ∧ ∀ w, m.run P w = .ok (.agg ⟨r'⟩) w) → PuY P E (fun s => okAgg o s) m := by
    intro o m h
    cases o with
    | none => exact .no fun _ => rfl
    | some r => obtain ⟨r', h1, h2⟩ := h r rfl; exact .yes (fun _ => rfl) (.agg _ _ h1) h2
  unfold xBuild
  split
  · rename_i z fs hz hu
    obtain ⟨v, hv, _, hzv, _⟩ := zeroCs_sound (E := E) hz
    cases hsd : sized P fs.toList with
    | false => exact .no fun _ => rfl
    | true =>
      refine fin fun r hr => ?_
      obtain ⟨r', k1, _, k3⟩ := fillP_sound _ hρ _ _ _ hzv hr
      refine ⟨r', k1, fun w => ?_⟩
      obtain ⟨l, h1, h2⟩ := run_places w fs.toList hsd
      have hm : (fs.mapM (m := Sem) fun f => do pure (f.offset, ← sizeOf f.type)).run P w = .ok l.toArray w := by
        rw [Array.mapM_eq_mapM_toList]
        simp only [Sem.run_map, h1, Result.andThen_ok]
      have hpl : (fun i => l.toArray[i]?) = places P fs.toList := funext fun i => by rw [List.getElem?_toArray]; exact h2 i
      simp only [Instr.build, Sem.run_bind, run_zeroValue w hv, Result.andThen_ok, run_underlying hu, hm, hpl, hps]
      rw [show v.cells = ⟨v.cells.toList⟩ from rfl, k3]
      rfl
  · rename_i z n e hz hu
    obtain ⟨v, hv, _, hzv, _⟩ := zeroCs_sound (E := E) hz
    split
    · rename_i size hs
      refine fin fun r hr => ?_
      obtain ⟨r', k1, _, k3⟩ := fillP_sound _ hρ _ _ _ hzv hr
      refine ⟨r', k1, fun w => ?_⟩
      simp only [Instr.build, Sem.run_bind, run_zeroValue w hv, Result.andThen_ok, run_underlying hu, run_sizeOf w hs, hps]
      rw [show v.cells = ⟨v.cells.toList⟩ from rfl]
      rw [show (fun i => some (i * size, size)) = (fun i => some (Nat.mul i size, size)) from rfl, k3]
      rfl
    · exact .no fun _ => rfl
  · exact .no fun _ => rfl
theorem consV_eq (v : Value) (l : List Value) : consV v l = v :: l := by unfold consV; rw [fV_eq, consS_eq]
theorem opds_eq (tm : Tr Value) : ∀ xs, opds tm xs = xs.map (opd tm)
  | [] => rfl
  | x :: xs => by show consV (opd tm x) (opds tm xs) = _; rw [consV_eq, opds_eq tm xs]; rfl
theorem opds_sound {tm : Tr Value} {ρ : Operand → Value} : ∀ (xs : List Operand) (_ : ∀ x ∈ xs, VR E (opd tm x) (ρ x)), VRs E (opds tm xs) (xs.map ρ)
  | [], _ => .nil
  | x :: xs, hρ => by rw [opds_eq, List.map_cons, ← opds_eq]; exact .cons _ _ _ _ (hρ x (by simp)) (opds_sound xs fun y hy => hρ y (by simp [hy]))
theorem opdO_sound {tm : Tr Value} {ρ : Operand → Value} : ∀ (x : Option Operand) (_ : ∀ y ∈ x.toList, VR E (opd tm y) (ρ y)), OR E (opdO tm x) (x.map ρ)
  | none, _ => .none
  | some x, hρ => .some _ _ (hρ x (by simp))
theorem xIface_sound (t : TypeId) {a a' : Value} (ha : VR E a a') : PuY P E (fun s => xIface (P.underlying t) t a s) (Instr.makeInterface t a') := by
  unfold xIface
  split
  · exact .no fun _ => rfl
  · rename_i d hd hi
    refine .yes (fun _ => rfl) (.ifc t a a' ha) fun w => ?_
    simp only [Instr.makeInterface, Sem.run_bind, run_underlying hi, Result.andThen_ok]
    rfl
  · exact .no fun _ => rfl
theorem headT_some {ts : Array TypeId} {d : TypeDesc} (h : headT P ts.toList = some d) : ∃ t, ts[0]? = some t ∧ P.underlying t = some d := by
  obtain ⟨l⟩ := ts
  cases l with
  | nil => cases h
  | cons t l => exact ⟨t, by simp, h⟩
theorem VRs.one_inv {v : Value} {l' : List Value} (h : VRs E [v] l') : ∃ v', l' = [v'] ∧ VR E v v' := by
  cases h with
  | cons _ v' _ l' hv hl => cases hl; exact ⟨v', rfl, hv⟩
/-- len of what is no map. -/
theorem xLen_sound (ts : Array TypeId) (ty : TypeId) {args args' : List Value} (ha : VRs E args args') (hm : ∀ k e, headT P ts.toList ≠ some (.map k e)) : PuY P E (fun s => xLen P ts.toList args s) (Builtin.len_ ts ty ⟨args'⟩) := by
  unfold xLen
  split
  · rename_i e a n c hd
    obtain ⟨v', rfl, hv⟩ := ha.one_inv
    obtain ⟨a', c', rfl, _⟩ := hv.slice_any
    obtain ⟨t, h1, h2⟩ := headT_some hd
    exact .yes (fun _ => rfl) (.int _ _) fun w => by simp [Builtin.len_, h1, run_underlying h2, goInt]
  · rename_i u hd
    obtain ⟨v', rfl, hv⟩ := ha.one_inv
    obtain rfl := hv.str_inv
    obtain ⟨t, h1, h2⟩ := headT_some hd
    exact .yes (fun s => okN_eq _ _ s) (.int _ _) fun w => by simp [Builtin.len_, h1, run_underlying h2, goInt]
  · rename_i n e v hd
    obtain ⟨v', rfl, hv⟩ := ha.one_inv
    obtain ⟨t, h1, h2⟩ := headT_some hd
    exact .yes (fun s => okN_eq _ _ s) (.int _ _) fun w => by simp [Builtin.len_, h1, run_underlying h2, goInt]
  · rename_i hd; exact absurd hd (hm _ _)
  · rename_i hd; exact absurd hd (hm _ _)
  · exact .no fun _ => rfl
theorem xCap_sound (ts : Array TypeId) (ty : TypeId) {args args' : List Value} (ha : VRs E args args') : PuY P E (fun s => xCap P ts.toList args s) (Builtin.cap_ ts ty ⟨args'⟩) := by
  unfold xCap
  split
  · rename_i e n c hd
    obtain ⟨v', rfl, hv⟩ := ha.one_inv
    obtain rfl := plain_eq 1 _ _ rfl hv
    obtain ⟨t, h1, h2⟩ := headT_some hd
    exact .yes (fun s => okN_eq _ _ s) (.int _ _) fun w => by simp [Builtin.cap_, h1, run_underlying h2, goInt]
  · rename_i e b o n c hd
    obtain ⟨v', rfl, hv⟩ := ha.one_inv
    obtain ⟨_, c', rfl, _, hcase⟩ := hv.sl_inv
    obtain ⟨t, h1, h2⟩ := headT_some hd
    rcases hcase with ⟨k1, k2, k3⟩ | ⟨k1, _⟩
    · rw [k1, k3]
      exact .yes (fun s => okN_eq _ _ s) (.int _ _) fun w => by simp [Builtin.cap_, h1, run_underlying h2, goInt]
    · rw [k1]; exact .no fun _ => rfl
  · exact .no fun _ => rfl
theorem allInt_eq : ∀ {args args' : List Value}, VRs E args args' → allInt args = true → args' = args
  | _, _, .nil, _ => rfl
  | _, _, .cons v v' l l' hv hl, h => by
    simp only [allInt, List.all_cons, Bool.and_eq_true] at h
    rw [allInt_eq hl h.2]
    have := h.1
    split at this
    · rw [hv.int_inv]
    · cases this
theorem kind_len (P : Program) (ts : Array TypeId) (args : Array Operand) : kindOf P (.call ⟨.builtin .len, args, ts⟩) = .none → ∀ k e, headT P ts.toList ≠ some (.map k e) := by
  intro h k e hm
  obtain ⟨t, h1, h2⟩ := headT_some hm
  simp only [kindOf, h1, Option.bind_some, h2] at h
  cases h
/-- What an operation looks at is known. -/
def Seen (E : En) (tm : Tr Value) (ρ : Operand → Value) (op : Op) : Prop := ∀ x ∈ op.operands.toList, VR E (opd tm x) (ρ x)
theorem exec_pure {tm : Tr Value} {ρ : Operand → Value} (o : Oper) (hρ : Seen E tm ρ o.op) (hk : kindOf P o.op = .none) : PuO P E (fun s => exec P o.op tm s) (execOp ρ o) := by
  obtain ⟨d0, op, type, pos, aft, guard⟩ := o
  simp only at hk hρ
  have hm : ∀ x, x ∈ op.operands.toList → VR E (opd tm x) (ρ x) := hρ
  cases op with
  | move x => exact .yes (fun _ => rfl) (hm x (by simp [Op.operands])) fun w => rfl
  | assign x => exact .yes (fun _ => rfl) (hm x (by simp [Op.operands])) fun w => rfl
  | pick c x y => exact xPick_sound P (hm c (by simp [Op.operands])) (hm x (by simp [Op.operands])) (hm y (by simp [Op.operands]))
  | build t ps => exact (xBuild_sound t ps fun x hx => hm x (by simpa [Op.operands] using hx)).o
  | nilCheck x => exact xNil_sound (hm x (by simp [Op.operands])) rfl
  | binOp op t x y u => exact (xBin_sound P op t x y (hm x (by simp [Op.operands])) (hm y (by simp [Op.operands]))).o
  | unOp op t x => exact (xUn_sound P op (hm x (by simp [Op.operands]))).o
  | makeInterface t x => exact (xIface_sound t (hm x (by simp [Op.operands]))).o
  | makeFunc fn x y =>
    show PuO P E (fun s => cond (fnOk fn) (.ok (.val (.func fn ⟨opds tm x.toList⟩ ⟨opds tm y.toList⟩)) s) .no) _
    have hx : (x.map ρ) = ⟨x.toList.map ρ⟩ := by apply Array.ext'; simp
    have hy : (y.map ρ) = ⟨y.toList.map ρ⟩ := by apply Array.ext'; simp
    cases fn with
    | func f => exact .yes (fun _ => rfl) (.func f _ _ _ _ (opds_sound x.toList fun z hz => hm z (by simp only [Op.operands, Array.toList_append, List.mem_append]; exact .inl hz)) (opds_sound y.toList fun z hz => hm z (by simp only [Op.operands, Array.toList_append, List.mem_append]; exact .inr hz))) fun w => by simp [execOp, Instr.makeFunc, hx, hy]
    | method f => exact .yes (fun _ => rfl) (.meth f _ _ _ _ (opds_sound x.toList fun z hz => hm z (by simp only [Op.operands, Array.toList_append, List.mem_append]; exact .inl hz)) (opds_sound y.toList fun z hz => hm z (by simp only [Op.operands, Array.toList_append, List.mem_append]; exact .inr hz))) fun w => by simp [execOp, Instr.makeFunc, hx, hy]
    | methodOf => exact .no fun _ => rfl
    | via => exact .no fun _ => rfl
    | yield => exact .no fun _ => rfl
  | slice t x lo hi mx => exact (xSlice_sound t (hm x (by simp [Op.operands])) (opdO_sound lo fun z hz => hm z (by simp only [Op.operands, Array.toList_append, List.mem_append, Option.toList_toArray]; exact .inl (.inl (.inr hz)))) (opdO_sound hi fun z hz => hm z (by simp only [Op.operands, Array.toList_append, List.mem_append, Option.toList_toArray]; exact .inl (.inr hz))) (opdO_sound mx fun z hz => hm z (by simp only [Op.operands, Array.toList_append, List.mem_append, Option.toList_toArray]; exact .inr hz))).o
  | sliceToArrayPointer t x => exact (xArr_sound t (hm x (by simp [Op.operands]))).o
  | fieldAddr t x f => exact (xFieldAddr_sound t f (hm x (by simp [Op.operands]))).o
  | field t x f => exact (xField_sound t f (hm x (by simp [Op.operands]))).o
  | indexAddr t x i => exact (xIndexAddr_sound t (hm x (by simp [Op.operands])) (hm i (by simp [Op.operands]))).o
  | index t x i => exact (xIndex_sound t (hm x (by simp [Op.operands])) (hm i (by simp [Op.operands]))).o
  | extract t i => exact (xExtract_sound i (hm t (by simp [Op.operands]))).o
  | convert src dst x =>
    show PuO P E (fun s => xConv P src dst (opd tm x) s) _
    unfold xConv
    split
    · rename_i k n hx
      have := hm x (by simp [Op.operands])
      rw [hx] at this
      have e := this.int_inv
      have h2 : execOp ρ ⟨d0, .convert src dst x, type, pos, aft, guard⟩ = (do pure (.value (← convert src dst (.int k n)))) := by show (do pure (Next.value (← convert src dst (ρ x)))) = _; rw [e]
      rw [h2]
      exact (intTo_sound P src dst k n).o
    · rename_i u hx
      have := hm x (by simp [Op.operands])
      rw [hx] at this
      have e := this.str_inv
      split
      · rename_i h1 h2
        refine .yes (fun _ => rfl) (.str u) fun w => ?_
        show (do pure (Next.value (← convert src dst (ρ x)))).run P w = _
        rw [e]
        simp [convert, run_underlying h1, run_underlying h2]
      · rename_i h1 h2
        simp only [kindOf, h1, h2] at hk
        cases hk
      · exact .no fun _ => rfl
    · split
      · rename_i h1 h2
        simp only [kindOf, h1, h2] at hk
        cases hk
      · rename_i h1 h2
        simp only [kindOf, h1, h2] at hk
        cases hk
      · exact .no fun _ => rfl
    · split
      · rename_i h1 h2 _
        simp only [kindOf, h1, h2] at hk
        cases hk
      · exact .no fun _ => rfl
    · exact .no fun _ => rfl
  | call c =>
    obtain ⟨callee, args, ts⟩ := c
    have hargs : (args.map ρ) = ⟨args.toList.map ρ⟩ := by apply Array.ext'; simp
    cases callee with
    | builtin b =>
      have hb : ∀ (m : Sem Value), builtin b ts type (args.map fun | .const _ => true | _ => false) (args.map ρ) = (do pure (.value (← m))) → (execOp ρ ⟨d0, .call ⟨.builtin b, args, ts⟩, type, pos, aft, guard⟩) = (do pure (.value (← m))) := by
        intro m hm
        rw [← hm]
        rfl
      cases b with
      | len =>
        rw [hb (Builtin.len_ ts type (args.map ρ)) rfl, hargs]
        exact (xLen_sound ts type (opds_sound args.toList fun z hz => hm z (by simp only [Op.operands, Call.operands, Array.toList_append, List.mem_append]; exact .inr hz)) (kind_len P ts args hk)).o
      | cap =>
        rw [hb (Builtin.cap_ ts type (args.map ρ)) rfl, hargs]
        exact (xCap_sound ts type (opds_sound args.toList fun z hz => hm z (by simp only [Op.operands, Call.operands, Array.toList_append, List.mem_append]; exact .inr hz))).o
      | min =>
        rw [hb (Builtin.min_ ts type (args.map ρ)) rfl, hargs]
        show PuO P E (fun s => cond (allInt (opds tm args.toList)) (ofPure P (Builtin.min_ #[] 0 ⟨opds tm args.toList⟩) s) .no) _
        cases e : allInt (opds tm args.toList) with
        | false => exact .no fun _ => rfl
        | true => rw [allInt_eq (opds_sound args.toList fun z hz => hm z (by simp only [Op.operands, Call.operands, Array.toList_append, List.mem_append]; exact .inr hz)) e]; exact PuY.self.o
      | max =>
        rw [hb (Builtin.max_ ts type (args.map ρ)) rfl, hargs]
        show PuO P E (fun s => cond (allInt (opds tm args.toList)) (ofPure P (Builtin.max_ #[] 0 ⟨opds tm args.toList⟩) s) .no) _
        cases e : allInt (opds tm args.toList) with
        | false => exact .no fun _ => rfl
        | true => rw [allInt_eq (opds_sound args.toList fun z hz => hm z (by simp only [Op.operands, Call.operands, Array.toList_append, List.mem_append]; exact .inr hz)) e]; exact PuY.self.o
      | _ => cases hk
    | value f => cases hk
    | invoke r name => cases hk
  | typeAssert => exact .no fun _ => rfl
  | _ => cases hk
end
end Go.Ev
