import Derived.Test.YtgglbjnfbfpiiaaGreatDoorH6zz
/-
  The evaluator: regions whose order is drawn.
-/
namespace Go.Ev
open Go
section
variable {P : Program} {rec : Rec} {C : Cx P rec} {N : Nat} {E0 : En} {s0 : St} {w0 : World}
theorem getD_true {a : Array Bool} {i : Nat} (h : i < a.size) : a.getD i true = a.getD i false := by
  simp [Array.getD, h]
/-- What stands between the plan's place and an operation that acts. -/
theorem Sim.upto {c : Nat} {D : List Nat} {E : En} {w : World} {act : Act} {ad : Nat → Nat × Nat} (I : Sim C N E0 s0 w0 c D E w act ad) {m : Nat} {x : Sp} (hx : C.l[m]? = some x) (hk : x.kd = .acts) (hanc : ∀ k, Nat.testBit x.ms k = true → k ∈ D) :
    ∀ (d : Nat) (j : Nat) (y : Sp), j + d + 1 = m → c ≤ j → C.l[j]? = some y → x.ix ∉ D → (∀ (j' : Nat) (y' : Sp), j < j' → j' < m → C.l[j']? = some y' → y'.kd ≠ .acts) → y.ix ∈ D ∧ y.kd ≠ .acts := by
  intro d j y hj hcj hy hi hno
  have h1 := C.K.since m j x y hx hk (by omega) hy fun m2 x2 q1 q2 q3 => hno m2 x2 q1 q2 q3
  have h2 := hanc _ h1
  exact ⟨h2, fun e => I.acts j y hcj hy e h2⟩
theorem Sim.between {c : Nat} {D : List Nat} {E : En} {w : World} {act : Act} {ad : Nat → Nat × Nat} (I : Sim C N E0 s0 w0 c D E w act ad) {m : Nat} {x : Sp} (hx : C.l[m]? = some x) (hk : x.kd = .acts) (hi : x.ix ∉ D) (hanc : ∀ k, Nat.testBit x.ms k = true → k ∈ D) :
    ∀ (d : Nat), c + d ≤ m → ∀ (j : Nat) (y : Sp), m - d ≤ j → c ≤ j → j < m → C.l[j]? = some y → y.ix ∈ D ∧ y.kd ≠ .acts
  | 0, _, j, y, h1, _, h3, _ => by omega
  | d + 1, h, j, y, h1, h2, h3, hy => by
    rcases Nat.lt_or_ge j (m - d) with hlt | hge
    · refine I.upto hx hk hanc d j y (by omega) h2 hy hi fun j' y' q1 q2 q3 => ?_
      exact (I.between hx hk hi hanc d (by omega) j' y' (by omega) (by omega) q2 q3).2
    · exact I.between hx hk hi hanc d (by omega) j y hge h2 h3 hy
theorem draws_go (R : RecOk N P rec) (hN : N ≤ w0.heap.size) {b : Frame} {k : List Item} {cs : List Frame} (hb : Calm C.rd b cs) : ∀ (fuel t : Nat) (listed : Array Bool) {c : Nat} {D : List Nat} {E : En} {w : World} {act : Act} {ad : Nat → Nat × Nat},
    Sim C N E0 s0 w0 c D E w act ad → (∃ q ps, C.pa c = (q, C.s c) :: ps) → listed.size = C.A.size → (∀ i, i < C.A.size → (listed.getD i true = true ↔ i ∈ D)) → ((List.range C.A.size).filter fun i => !listed.getD i true).length ≤ fuel →
    ∃ c' D' E' w' act' ad', Sim C N E0 s0 w0 c' D' E' w' act' ad' ∧ (∀ i, i < C.A.size → i ∈ D') ∧
      Steps P (lone (b.atR act (.inRegion C.A (Region.linearise.go .any C.A fuel t listed []) :: k)) cs w) (lone (b.atR act' (.inRegion C.A [] :: k)) cs w') := by
  intro fuel
  induction fuel with
  | zero =>
    intro t listed c D E w act ad I _ hsz hl hf
    have hnil := List.eq_nil_of_length_eq_zero (Nat.le_zero.1 hf)
    refine ⟨c, D, E, w, act, ad, I, fun i hi => ?_, .refl _ _⟩
    cases e : listed.getD i true with
    | true => exact (hl i hi).1 e
    | false =>
      have : i ∈ (List.range C.A.size).filter fun i => !listed.getD i true := List.mem_filter.2 ⟨List.mem_range.2 hi, by rw [e]; rfl⟩
      rw [hnil] at this
      cases this
  | succ fuel ih =>
    intro t listed c D E w act ad I hps hsz hl hf
    have hgo : Region.linearise.go .any C.A (fuel + 1) t listed [] = (match (Region.ready .any C.A listed)[t % (Region.ready .any C.A listed).length]? with
      | some i => i :: Region.linearise.go .any C.A fuel (t / (Region.ready .any C.A listed).length) (listed.setIfInBounds i true) []
      | none => []) := by
      simp only [Region.linearise.go]
      change (match (Region.ready .any C.A listed)[t % (Region.ready .any C.A listed).length]? with
        | some i => Region.linearise.go .any C.A fuel (t / (Region.ready .any C.A listed).length) (listed.setIfInBounds i true) [i]
        | none => [].reverse) = _
      cases (Region.ready .any C.A listed)[t % (Region.ready .any C.A listed).length]? with
      | none => rfl
      | some i => simp only []; rw [linearise_go_acc, List.reverse_singleton, List.singleton_append]
    rw [hgo]
    have mem_ready : ∀ i, i ∈ Region.ready .any C.A listed ↔ i < C.A.size ∧ (!listed.getD i true && ((C.A[i]?).map (·.after.all fun e => !Region.binds .any e || listed.getD e.on false)).getD false) = true := by
      intro i
      unfold Region.ready
      rw [List.mem_filter, List.mem_range]
    cases hr : (Region.ready .any C.A listed)[t % (Region.ready .any C.A listed).length]? with
    | none =>
      have hnil : Region.ready .any C.A listed = [] := by
        cases hq : Region.ready .any C.A listed with
        | nil => rfl
        | cons z zs =>
          rw [hq] at hr
          have hlt : t % (z :: zs).length < (z :: zs).length := Nat.mod_lt _ (by simp)
          rw [List.getElem?_eq_getElem hlt] at hr
          cases hr
      have all : ∀ n i, i < n → i < C.A.size → listed.getD i true = true := by
        intro n
        induction n with
        | zero => intro i h; omega
        | succ n ihn =>
          intro i hi hs
          cases e : listed.getD i true with
          | true => rfl
          | false =>
            have hA : C.A[i]? = some C.A[i] := Array.getElem?_eq_getElem hs
            have : i ∈ Region.ready .any C.A listed := by
              rw [mem_ready]
              refine ⟨hs, ?_⟩
              rw [e, hA]
              simp only [Bool.not_false, Bool.true_and, Option.map_some, Option.getD_some]
              rw [Array.all_eq_true']
              intro ed hed
              cases hbd : Region.binds .any ed with
              | false => rfl
              | true =>
                have h1 := C.K.back i _ ed hA (by simpa using hed) hbd
                have h2 := ihn ed.on (by omega) (by omega)
                rw [getD_true (by omega)] at h2
                simpa using h2
            rw [hnil] at this
            cases this
      exact ⟨c, D, E, w, act, ad, I, fun i hi => (hl i hi).1 (all (i + 1) i (by omega) hi), .refl _ _⟩
    | some i =>
      have hmem := List.mem_of_getElem? hr
      obtain ⟨his, hcond⟩ := (mem_ready i).1 hmem
      obtain ⟨hun, haf⟩ := Bool.and_eq_true_iff.1 hcond
      have hA : C.A[i]? = some C.A[i] := Array.getElem?_eq_getElem his
      have hunl : listed.getD i true = false := by simpa using hun
      rw [hA] at haf
      simp only [Option.map_some, Option.getD_some] at haf
      rw [Array.all_eq_true'] at haf
      have hiD : i ∉ D := fun h => by rw [(hl i his).2 h] at hunl; cases hunl
      obtain ⟨m, x, hx, hxi⟩ := C.K.all i his
      obtain ⟨hop, hkd, hms⟩ := C.K.op m x hx
      have hanc : ∀ q, Nat.testBit x.ms q = true → q ∈ D := by
        intro q hq
        rw [hms, hxi] at hq
        obtain ⟨ed, h1, h2, h3⟩ := C.K.anc i q _ hA hq
        have h4 := haf ed (by simpa using h1)
        rw [h2] at h4
        have h5 : listed.getD ed.on false = true := by simpa using h4
        have hlt : ed.on < C.A.size := by
          have := C.K.back i _ ed hA h1 h2
          omega
        have h6 : ed.on ∈ D := (hl ed.on hlt).1 (by rw [getD_true (by omega)]; exact h5)
        rcases h3 with h3 | h3
        · rw [h3]; exact h6
        · exact I.dn _ h6 _ h3
      have hxD : x.ix ∉ D := by rw [hxi]; exact hiD
      have hcm : c ≤ m := by
        rcases Nat.lt_or_ge m c with h | h
        · exact absurd (I.done m x h hx) hxD
        · exact h
      -- one step
      have one : ∃ c1 E1 w1 act1 ad1, Sim C N E0 s0 w0 c1 (x.ix :: D) E1 w1 act1 ad1 ∧ (∃ q ps, C.pa c1 = (q, C.s c1) :: ps) ∧
          Steps P (lone (b.atR act (.inRegion C.A (x.ix :: Region.linearise.go .any C.A fuel (t / (Region.ready .any C.A listed).length) (listed.setIfInBounds i true) []) :: k)) cs w) (lone (b.atR act1 (.inRegion C.A (Region.linearise.go .any C.A fuel (t / (Region.ready .any C.A listed).length) (listed.setIfInBounds i true) []) :: k)) cs w1) := by
        by_cases hk : x.kd = .acts
        · have hml := getElem?_lt hx
          obtain ⟨E1, I1⟩ := Sim.absorb hN (m - c) I (by omega) fun j y h1 h2 hy => (I.between hx hk hxD hanc (m - c) (by omega) j y (by omega) h1 (by omega) hy).1
          rw [show c + (m - c) = m by omega] at I1
          obtain ⟨E2, act2, w2, I2, h2⟩ := I1.act1 R hN hx hk hxD hanc (k := k) hb
          exact ⟨m + 1, E2, w2, act2, ad, I2, ⟨_, _, C.W.act m x hx hk⟩, h2⟩
        · obtain ⟨act2, w2, ad2, I2, h2⟩ := I.pre hps hx hk hxD hanc
          exact ⟨c, E, w2, act2, ad2, I2, hps, h2⟩
      obtain ⟨c1, E1, w1, act1, ad1, I1, hps1, hs1⟩ := one
      rw [hxi] at I1 hs1
      have hsz' : (listed.setIfInBounds i true).size = C.A.size := by simpa using hsz
      have hset : ∀ j, j < C.A.size → (listed.setIfInBounds i true).getD j true = (if j = i then true else listed.getD j true) := by
        intro j hj
        simp only [Array.getD_eq_getD_getElem?, Array.getElem?_setIfInBounds]
        by_cases e : i = j
        · subst e
          rw [if_pos rfl, if_pos (by omega), if_pos rfl]; rfl
        · rw [if_neg e, if_neg (fun h => e h.symm)]
      have hl' : ∀ j, j < C.A.size → ((listed.setIfInBounds i true).getD j true = true ↔ j ∈ i :: D) := by
        intro j hj
        rw [hset j hj]
        by_cases e : j = i
        · subst e; simp
        · rw [if_neg e, hl j hj]; simp [e]
      have hf' : ((List.range C.A.size).filter fun j => !(listed.setIfInBounds i true).getD j true).length ≤ fuel := by
        have h1 : ((List.range C.A.size).filter fun j => !(listed.setIfInBounds i true).getD j true) = ((List.range C.A.size).filter fun j => !listed.getD j true).filter fun j => !decide (j = i) := by
          rw [List.filter_filter]
          refine List.filter_congr fun j hj => ?_
          rw [hset j (List.mem_range.1 hj)]
          by_cases e : j = i <;> simp [e]
        rw [h1]
        have h2 : (((List.range C.A.size).filter fun j => !listed.getD j true).filter fun j => !decide (j = i)).length < ((List.range C.A.size).filter fun j => !listed.getD j true).length := by
          rw [List.length_filter_lt_length_iff_exists]
          exact ⟨i, List.mem_filter.2 ⟨List.mem_range.2 his, by rw [hunl]; rfl⟩, by simp⟩
        omega
      obtain ⟨c', D', E', w', act', ad', J, hall, hs⟩ := ih (t / (Region.ready .any C.A listed).length) (listed.setIfInBounds i true) I1 hps1 hsz' hl' hf'
      exact ⟨c', D', E', w', act', ad', J, hall, hs1.trans hs⟩
end
theorem draw_ok {P : Program} {N : Nat} {rec : Rec} (hm : P.follows .mixedOrders = true) (R : RecOk N P rec) : DrawOk N P rec := by
  intro id A rd E s s' w a a' act h ha hplan b k cs hb
  unfold planned at hplan
  cases hpl : planOf P A.toList with
  | none => rw [hpl] at hplan; cases hplan
  | some l =>
  rw [hpl] at hplan
  obtain ⟨af, sf, pa, W, e1, e2, e3, e4, e5⟩ := walk_run (show walk P rec rd A.toList l [(none, s)] a s = .ok a' s' from hplan)
  have hn : (af 0).nn ≤ 4611686018427387904 := by
    rw [e1]
    exact (ha.size a.nn a.tm a.df a.eta).2
  let C : Cx P rec := ⟨rd, A, l, af, sf, pa, masks A.toList [], planOf_ok hpl, W, hn⟩
  have hh := h.drawn (w.drawn + 1)
  have hN : N ≤ ({ w with drawn := w.drawn + 1 } : World).heap.size := hh.flr
  have hstart : Sim C N E s { w with drawn := w.drawn + 1 } 0 [] E { w with drawn := w.drawn + 1 } act (fun _ => (0, 0)) := by
    refine ⟨?_, Nat.zero_le _, fun i hi => by (cases hi), fun m x hm => by omega, fun m x _ _ _ hin => by (cases hin), fun m x t _ hin => by (cases hin), fun t _ => ?_, ?_, ?_, fun j x _ _ hin => by (cases hin), fun j _ he => ?_, fun j j' _ _ he => ?_⟩
    · show Stp N E s _ E (sf 0) _
      rw [e2]
      exact .refl hh
    · show VR E (orUndef ((af 0).tm.get t)) _
      rw [e1]
      exact ha.tmps a.nn a.tm a.df a.eta t
    · show act.tmps.size = (af 0).nn
      rw [e1]
      exact (ha.size a.nn a.tm a.df a.eta).1
    · show DfRs E (af 0).df act.defers
      rw [e1]
      exact ha.defers a.nn a.tm a.df a.eta
    · obtain ⟨x, _, hin, _⟩ := he
      cases hin
    · obtain ⟨x, _, hin, _⟩ := he
      cases hin
  obtain ⟨c', D', E', w', act', ad', I, hall, hs⟩ := draws_go (C := C) R hN hb A.size (w.tape w.drawn (.order b.fn id)) (Array.replicate A.size false) hstart ⟨none, [], by show pa 0 = (none, sf 0) :: []; rw [e3, e2]⟩ (by simp [C]) (fun i hi => by
      have hi' : i < A.size := hi
      simp [Array.getD, hi']) (by
      refine Nat.le_trans (List.length_filter_le _ _) ?_
      rw [List.length_range]
      exact Nat.le_refl _) (k := k)
  obtain ⟨E2, J⟩ := Sim.absorb hN (C.l.length - c') I (by have := I.cl; omega) fun j x _ _ hx => by
    have := (C.K.op j x hx).1
    exact hall _ (by
      rcases Nat.lt_or_ge x.ix C.A.size with q | q
      · exact q
      · rw [Array.getElem?_eq_none q] at this; cases this)
  rw [show c' + (C.l.length - c') = C.l.length by have := I.cl; omega] at J
  have hS := J.stp
  rw [show C.s C.l.length = s' from e5] at hS
  refine ⟨E2, act', w', (Stp.drawn h (w.drawn + 1)).trans hS, ?_, ?_⟩
  · have hsz := J.size
    have hnn : (C.a C.l.length).nn = (C.a 0).nn := C.W.size C.hn _ (Nat.le_refl _)
    rw [show a' = C.a C.l.length from e4.symm, (C.a C.l.length).eta]
    refine .mk' (by rw [hnn]; exact hsz) (by rw [hnn]; exact C.hn) (fun t => ?_) J.dfr
    by_cases hw : ∃ (m : Nat) (x : Sp), C.l[m]? = some x ∧ x.op.dst = some t
    · obtain ⟨m, x, hx, hd⟩ := hw
      have hml := getElem?_lt hx
      exact J.t1 m x t hx (J.done m x hml hx) hd E2 (.refl _) fun j h1 h2 => by omega
    · have hno : ∀ (j : Nat) (y : Sp), C.l[j]? = some y → y.op.dst ≠ some t := fun j y hy hd => hw ⟨j, y, hy, hd⟩
      rw [C.W.old C.hn (Nat.le_refl _) fun j y _ hy => hno j y hy]
      exact J.t0 t fun j y hy _ => hno j y hy
  · refine .head stepR_region_draw ?_
    have hsch : Region.schedule (P.follows .mixedOrders) A (w.tape w.drawn (.order b.fn id)) = Region.linearise.go .any A A.size (w.tape w.drawn (.order b.fn id)) (Array.replicate A.size false) [] := by
      simp only [Region.schedule, hm, Bool.true_or, if_true]
      rfl
    rw [hsch]
    exact hs.trans (.one stepR_region_end)
end Go.Ev
