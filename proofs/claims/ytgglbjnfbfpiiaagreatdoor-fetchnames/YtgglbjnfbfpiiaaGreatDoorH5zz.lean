import Derived.Test.YtgglbjnfbfpiiaaGreatDoorH4zz
/-
  The evaluator: an order that is drawn; the steps.
-/
namespace Go.Ev
open Go
section
variable {P : Program} {rec : Rec} {C : Cx P rec} {N : Nat} {E0 : En} {s0 : St} {w0 : World} {c : Nat} {D : List Nat} {E : En} {w : World} {act : Act} {ad : Nat → Nat × Nat}
/-- The states behind, since an earlier place. -/
theorem Cx.past (C : Cx P rec) {c : Nat} : ∀ (d : Nat), c + d ≤ C.l.length → ∃ ext : Past, C.pa (c + d) = ext ++ C.pa c ∧ ∀ q ∈ ext, ∃ (j : Nat) (y : Sp), c ≤ j ∧ C.l[j]? = some y ∧ y.kd = .acts ∧ q.1 = some y.ix
  | 0, _ => ⟨[], rfl, fun q hq => by cases hq⟩
  | d + 1, h => by
    obtain ⟨ext, h1, h2⟩ := C.past (c := c) d (by omega)
    have hx := List.getElem?_eq_getElem (show c + d < C.l.length by omega)
    by_cases hk : (C.l[c + d]'(by omega)).kd = .acts
    · refine ⟨(some (C.l[c + d]'(by omega)).ix, C.s (c + d + 1)) :: ext, ?_, fun q hq => ?_⟩
      · rw [show c + (d + 1) = c + d + 1 by omega, C.W.act _ _ hx hk, h1]; rfl
      · rcases List.mem_cons.1 hq with rfl | hq
        · exact ⟨c + d, _, by omega, hx, hk, rfl⟩
        · exact h2 q hq
    · exact ⟨ext, by rw [show c + (d + 1) = c + d + 1 by omega, C.W.still _ _ hx hk, h1], h2⟩
theorem stood_at {op : Op} {tm : Tr Value} {u : Option Value} {mm : Nat} {q : Option Nat} {st : St} {ps : Past} : ∀ {ext : Past}, stood P op tm u mm (ext ++ (q, st) :: ps) = true → (∀ p ∈ ext, ∃ i, p.1 = some i ∧ Nat.testBit mm i = false) → agrees u (exec P op tm st) = true
  | [], h, _ => by
    simp only [List.nil_append, stood] at h
    cases e : agrees u (exec P op tm st) with
    | true => rfl
    | false => rw [e] at h; cases h
  | (q1, s1) :: ext, h, hn => by
    obtain ⟨i, e1, e2⟩ := hn _ List.mem_cons_self
    have e1' : q1 = some i := e1
    subst e1'
    have h' : cond (agrees u (exec P op tm s1)) (cond (Nat.testBit mm i) true (stood P op tm u mm (ext ++ (q, st) :: ps))) false = true := h
    cases e : agrees u (exec P op tm s1) with
    | false => rw [e] at h'; cases h'
    | true =>
      rw [e, e2] at h'
      exact stood_at (show stood P op tm u mm (ext ++ (q, st) :: ps) = true from h') fun p hp => hn p (List.mem_cons_of_mem _ hp)
theorem Obs.ext {E E2 : En} {s : St} {w : World} (h : Obs E s w) (X : Ext E E2) : Obs E2 s w :=
  ⟨fun b o hb => ⟨Nat.lt_of_lt_of_le (h.ob b o hb).1 X.nx, (h.ob b o hb).2.keep X (h.ob b o hb).1 rfl⟩⟩
theorem value_inj {w w1 w2 : World} {v1 v2 : Value} {m : Sem Next} (h1 : m.run P w = .ok (.value v1) w1) (h2 : m.run P w = .ok (.value v2) w2) : v1 = v2 ∧ w1 = w2 := by
  rw [h1] at h2
  cases h2
  exact ⟨rfl, rfl⟩
theorem push_inj {α : Type} {a : Array α} {x y : α} (h : a.push x = a.push y) : x = y := by
  have := congrArg (fun b => b[a.size]?) h
  simpa using this
/-- An operation that does not act, in its drawn place. -/
theorem Sim.pre (I : Sim C N E0 s0 w0 c D E w act ad) (hps : ∃ q ps, C.pa c = (q, C.s c) :: ps) {m : Nat} {x : Sp} (hx : C.l[m]? = some x) (hk : x.kd ≠ .acts) (hi : x.ix ∉ D) (hanc : ∀ k, Nat.testBit x.ms k = true → k ∈ D)
    {b : Frame} {k : List Item} {cs : List Frame} {rest : List Nat} :
    ∃ act' w' ad', Sim C N E0 s0 w0 c (x.ix :: D) E w' act' ad' ∧ Steps P (lone (b.atR act (.inRegion C.A (x.ix :: rest) :: k)) cs w) (lone (b.atR act' (.inRegion C.A rest :: k)) cs w') := by
  have hml := getElem?_lt hx
  have hcm : c ≤ m := by
    rcases Nat.lt_or_ge m c with h | h
    · exact absurd (I.done m x h hx) hi
    · exact h
  obtain ⟨E2, X2, hnx2, hp2⟩ := I.env hcm (Nat.le_of_lt hml)
  obtain ⟨hop, hkd, hms⟩ := C.K.op m x hx
  have hseen : ∀ {E3 : En}, Ext E E3 → C.Mp D ad E3 c m → Seen E3 (C.a m).tm act.eval x.op.op := fun X hp => I.seen hx hi hanc X hp
  have hnn : (C.a m).nn ≤ 4611686018427387904 := by rw [C.W.size C.hn m (Nat.le_of_lt hml)]; exact C.hn
  have hk' : kindOf P x.op.op ≠ .acts := by rw [← hkd]; exact hk
  have hdefer : ∀ c, x.op.op ≠ .defer c := fun c e => hk' (by rw [e]; rfl)
  have hst := (C.W.step m x hx).1
  rw [(C.a m).eta] at hst
  have mem_m : x.ix ∈ x.ix :: D := List.mem_cons_self
  have sub : ∀ i ∈ D, i ∈ x.ix :: D := fun i h => List.mem_cons_of_mem _ h
  have em_ne : ∀ {j}, C.Em D j → j ≠ m := by
    intro j ⟨y, h1, h2, _⟩ e
    subst e
    rw [hx] at h1; cases h1
    exact hi h2
  have em_kd : C.Em (x.ix :: D) m → x.kd = .makes ∧ wants C.A.toList (C.a m).tm x.op.guard = some true := by
    intro ⟨y, h1, _, h3, h4⟩
    rw [hx] at h1; cases h1
    exact ⟨h3, h4⟩
  rcases oper_still hk' (hseen X2 hp2) hst with ⟨hw, hput, hs⟩ | ⟨hw, v, hex, hput, hsame⟩
  · -- not wanted
    obtain ⟨tm', e, _, g2⟩ := put_get hnn hput
    refine ⟨act.put x.op.dst undef, w, ad, I.add hx hk hi hanc I.stp (fun _ _ => rfl) (Nat.le_refl _) (fun _ _ => rfl) ⟨.inr hs, by rw [e]; rfl⟩ (fun t ht => ⟨?_, fun E3 _ _ => ?_⟩) (fun he => ?_), step_skip hop (I.wan hx hi hanc X2 hp2 hw)⟩
    · rw [← C.W.size C.hn m (Nat.le_of_lt hml)]; exact (g2 t ht).1
    · rw [e]
      show VR E3 (orUndef (tm'.get t)) undef
      rw [(g2 t ht).2]
      exact .undef
    · have := (em_kd he).2
      rw [hw] at this; cases this
  · have hwant := I.wan hx hi hanc X2 hp2 hw
    obtain ⟨tm', e, _, g2⟩ := put_get hnn hput
    have htm : ∀ t, x.op.dst = some t → orUndef ((C.a (m + 1)).tm.get t) = v := by
      intro t ht
      rw [e]
      show orUndef (tm'.get t) = v
      rw [(g2 t ht).2]; rfl
    have hlt : ∀ t, x.op.dst = some t → t < (C.a 0).nn := fun t ht => by rw [← C.W.size C.hn m (Nat.le_of_lt hml)]; exact (g2 t ht).1
    have mp0 : ∀ {E3 : En} {q : Nat}, C.Mp (x.ix :: D) ad E3 c q → C.Mp D ad E3 c q := fun h j h1 h2 he => h j h1 h2 (he.mono sub)
    -- nothing new
    have plain : x.kd ≠ .makes → ∀ v', (execOp act.eval x.op).run P w = .ok (.value v') w → (∀ E3, Ext E E3 → C.Mp D ad E3 c m → VR E3 v v') →
        ∃ act' w' ad', Sim C N E0 s0 w0 c (x.ix :: D) E w' act' ad' ∧ Steps P (lone (b.atR act (.inRegion C.A (x.ix :: rest) :: k)) cs w) (lone (b.atR act' (.inRegion C.A rest :: k)) cs w') := by
      intro hnm v' hrun hvr
      refine ⟨act.put x.op.dst v', w, ad, I.add hx hk hi hanc I.stp (fun _ _ => rfl) (Nat.le_refl _) (fun _ _ => rfl) ⟨.inr (hsame (by rw [← hkd]; exact hnm)), by rw [e]; rfl⟩ (fun t ht => ⟨hlt t ht, fun E3 X hp => ?_⟩) (fun he => absurd (em_kd he).1 hnm), step_val hop hdefer hwant hrun⟩
      rw [htm t ht]
      exact hvr E3 X fun j h1 h2 he => mp0 hp j h1 (by omega) he
    cases hkk : x.kd with
    | acts => exact absurd hkk hk
    | none =>
      have hk0 : kindOf P x.op.op = .none := by rw [← hkd]; exact hkk
      have each : ∀ {E3 : En}, Ext E E3 → C.Mp D ad E3 c m → ∃ v', VR E3 v v' ∧ (execOp act.eval x.op).run P w = .ok (.value v') w := by
        intro E3 X hp
        rcases exec_pure x.op (hseen X hp) hk0 with hno | ⟨v1, v', h1, h2, h3⟩
        · rw [show exec P x.op.op (C.a m).tm (C.s m) = .no from hno _] at hex; cases hex
        · rw [show exec P x.op.op (C.a m).tm (C.s m) = .ok (.val v1) (C.s m) from h1 _] at hex
          injection hex with h4 h5
          injection h4 with h4
          subst h4
          exact ⟨v', h2, h3 w⟩
      obtain ⟨v', _, hrun⟩ := each X2 hp2
      refine plain (by rw [hkk]; intro h; cases h) v' hrun fun E3 X hp => ?_
      obtain ⟨v2, h1, h2⟩ := each X hp
      rw [(value_inj hrun h2).1]; exact h1
    | reads =>
      have hk0 : kindOf P x.op.op = .reads := by rw [← hkd]; exact hkk
      obtain ⟨q, ps, hpa⟩ := hps
      obtain ⟨ext, hx1, hx2⟩ := C.past (c := c) (m - c) (by omega)
      rw [show c + (m - c) = m by omega, hpa] at hx1
      have hso := C.W.rd m x hx hkk
      have hso' : stood P x.op.op (C.a m).tm (getD (C.a (m + 1)).tm x.op.dst) x.ms (C.pa m) = true := by
        have h1 : stoodO P C.A.toList (C.pa m) x.op x.ms (C.a m) (C.a (m + 1)) = (match wants C.A.toList (C.a m).tm x.op.guard with
          | some true => stood P x.op.op (C.a m).tm (getD (C.a (m + 1)).tm x.op.dst) x.ms (C.pa m)
          | some false => true
          | none => false) := by
          generalize C.a m = a1
          generalize C.a (m + 1) = a2
          generalize x.op = o
          obtain ⟨_, _, _, _, _, _⟩ := o
          cases a1
          cases a2
          rfl
        rw [h1, hw] at hso
        exact hso
      rw [hx1] at hso'
      have hag := stood_at hso' fun p hp => by
        obtain ⟨j, y, h1, h2, h3, h4⟩ := hx2 p hp
        refine ⟨y.ix, h4, ?_⟩
        cases hb : Nat.testBit x.ms y.ix with
        | false => rfl
        | true => exact absurd (hanc _ hb) (I.acts j y h1 h2 h3)
      have hexc : ∃ s1, exec P x.op.op (C.a m).tm (C.s c) = .ok (.val v) s1 := by
        unfold agrees at hag
        split at hag
        · rename_i u v1 s1 hu he
          have e1 := eqV_eq 5 _ _ hag
          subst e1
          refine ⟨s1, ?_⟩
          rw [he]
          cases hd : x.op.dst with
          | none => rw [hd] at hu; cases hu
          | some t =>
            rw [hd] at hu
            have hu' : (C.a (m + 1)).tm.get t = some u := hu
            rw [e] at hu'
            have hu2 : tm'.get t = some u := hu'
            rw [(g2 t hd).2] at hu2
            cases hu2
            rfl
        · cases hag
      obtain ⟨s1, hexc⟩ := hexc
      have each : ∀ {E3 : En}, Ext E E3 → C.Mp D ad E3 c m → ∃ v', VR E3 v v' ∧ (execOp act.eval x.op).run P w = .ok (.value v') w := by
        intro E3 X hp
        obtain ⟨_, v1, v', h1, h2, h3⟩ := exec_reads (I.stp.rel.obs.ext X) x.op (hseen X hp) hk0 hexc
        cases h1
        exact ⟨v', h2, h3⟩
      obtain ⟨v', _, hrun⟩ := each X2 hp2
      refine plain (by rw [hkk]; intro h; cases h) v' hrun fun E3 X hp => ?_
      obtain ⟨v2, h1, h2⟩ := each X hp
      rw [(value_inj hrun h2).1]; exact h1
    | makes =>
      have hk0 : kindOf P x.op.op = .makes := by rw [← hkd]; exact hkk
      have hem : C.Em (x.ix :: D) m := ⟨x, hx, mem_m, hkk, hw⟩
      obtain ⟨ob, vf, hv0, hnx, hs1, hall⟩ := exec_makes x.op (hseen X2 hp2) hk0 hex
      obtain ⟨w1, o1, vf', sz, hrun, hpush, hos, htp, hout, M⟩ := hall w
      have hgob : (C.s (m + 1)).hp.get (C.s m).nx = some ob := by
        rw [hs1]
        show ((C.s m).hp.set ob (C.s m).nx).get (C.s m).nx = _
        rw [Tr.get_set _ _ _ (by omega), if_pos rfl]
      -- whatever is known of the places
      have each : ∀ {E3 : En}, Ext E E3 → C.Mp D ad E3 c m → E3.nx = (C.s m).nx → (∀ w2 : World, w2.heap[w.heap.size]? = some o1 → ObR (E3.push w.heap.size 0 o1.cellsN) E3.nx w2 ob) ∧ VR (E3.push w.heap.size 0 o1.cellsN) v (vf' w.heap.size) := by
        intro E3 X hp hnx3
        obtain ⟨ob3, vf3, hv3, _, hs3, hall3⟩ := exec_makes x.op (hseen X hp) hk0 hex
        obtain ⟨w3, o3, vf3', sz3, hrun3, hpush3, _, _, _, M3⟩ := hall3 w
        obtain ⟨e1, e2⟩ := value_inj hrun hrun3
        subst e2
        have e3 : o1 = o3 := push_inj (hpush.symm.trans hpush3)
        subst e3
        have e4 : ob3 = ob := by
          have : (C.s (m + 1)).hp.get (C.s m).nx = some ob3 := by
            rw [hs3]
            show ((C.s m).hp.set ob3 (C.s m).nx).get (C.s m).nx = _
            rw [Tr.get_set _ _ _ (by omega), if_pos rfl]
          rw [hgob] at this
          exact (Option.some.inj this).symm
        subst e4
        have e5 := M3.szo
        subst e5
        refine ⟨fun w2 hw2 => M3.ob E3 w.heap.size w2 (.refl E3) hw2, ?_⟩
        have := M3.vr E3 w.heap.size (.refl E3)
        rw [← e1, hnx3] at this
        have hv3' : v = vf3 (C.s m).nx := by injection hv3
        rw [← hv3'] at this
        exact this
      have hsz1 : w1.heap.size = w.heap.size + 1 := by rw [hpush]; simp
      have hold : ∀ B, B < w.heap.size → w1.heap[B]? = w.heap[B]? := fun B hB => by rw [hpush, Array.getElem?_push, if_neg (by omega)]
      have hnew : w1.heap[w.heap.size]? = some o1 := by rw [hpush]; simp
      let ad' : Nat → Nat × Nat := fun j => if j = m then (w.heap.size, o1.cellsN) else ad j
      have had : ∀ j, j ≠ m → ad' j = ad j := fun j hj => if_neg hj
      have hadm : ad' m = (w.heap.size, o1.cellsN) := if_pos rfl
      have mp : ∀ {E3 : En} {q : Nat}, C.Mp (x.ix :: D) ad' E3 c q → C.Mp D ad E3 c q := by
        intro E3 q h j h1 h2 he
        have := h j h1 h2 (he.mono sub)
        rw [had j (em_ne he)] at this
        exact this
      have hnxm : (C.s (m + 1)).nx = (C.s m).nx + 1 := by rw [hs1]; rfl
      refine ⟨act.put x.op.dst (vf' w.heap.size), w1, ad', I.add hx hk hi hanc (I.stp.pushed hpush hos htp hout) hold (by omega) had ⟨.inl hem, by rw [e]; rfl⟩ (fun t ht => ⟨hlt t ht, fun E3 X hp => ?_⟩) (fun _ => ⟨⟨hnxm, ?_, ?_, ?_, ob, hnx, hs1, M.grp, M.rw, ?_⟩, ?_⟩), step_val hop hdefer hwant hrun⟩
      · rw [htm t ht]
        obtain ⟨q1, q2, q3, q4⟩ := hp m hcm (Nat.lt_succ_self _) hem
        rw [hadm] at q2 q4
        have hcn : E.nx ≤ (C.s m).nx := by rw [I.nxE]; exact C.W.nx' hcm (Nat.le_of_lt hml)
        have X4 : Ext E { E3 with nx := (C.s m).nx } := ⟨hcn, X.ι, X.sh, X.sz⟩
        have hp4 : C.Mp D ad { E3 with nx := (C.s m).nx } c m := by
          intro j h1 h2 he
          obtain ⟨_, k2, k3, k4⟩ := mp hp j h1 (by omega) he
          have h3 := (I.made j h1 he).nx
          have h4 := C.W.nx' (show j + 1 ≤ m by omega) (Nat.le_of_lt hml)
          exact ⟨by show (C.s j).nx < (C.s m).nx; omega, k2, k3, k4⟩
        have hv4 := (each X4 hp4 rfl).2
        refine VR.ext (E := En.push { E3 with nx := (C.s m).nx } w.heap.size 0 o1.cellsN) (E' := E3) ⟨q1, fun b hb => ?_, fun b hb => ?_, fun b hb => ?_⟩ hv4
        all_goals
          have hb' : b < (C.s m).nx + 1 := hb
          by_cases eb : b = (C.s m).nx
        · subst eb; rw [q2]; exact (if_pos rfl).symm
        · exact (if_neg eb).symm
        · subst eb; rw [q3]; exact (if_pos rfl).symm
        · exact (if_neg eb).symm
        · subst eb; rw [q4]; exact (if_pos rfl).symm
        · exact (if_neg eb).symm
      · rw [hadm, hsz1]; exact Nat.lt_succ_self _
      · rw [hadm]; exact I.stp.size
      · rw [hadm]
        intro b1 o hb hd e
        have := (I.stp.rel.ob b1 o hb).2.lt hd
        have e' : E.ι b1 = w.heap.size := e
        omega
      · intro E3 X hnx3 hp w2 hw2
        rw [hadm] at hw2 ⊢
        exact (each X (mp hp) hnx3).1 w2 (by rw [hw2]; exact hnew)
      · intro j hj he
        rw [hadm]
        have := (I.made j hj he).lt
        intro e
        have e' : (ad j).1 = w.heap.size := e
        omega
end
end Go.Ev
