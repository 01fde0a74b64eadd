import Derived.Test.YtlhllbggnpcoaaaDoorMf
/-
  DigestMeets: what its last loops reckon with.
-/
namespace Go.Proofs.YtlhllbggnpcoaaaDoor
open Go.RowKit Go.Sort Go.Maps

theorem pairs_lt {κ : List Nat → List Nat} {L : List (List Nat)} (hL : Ris L) {Q : List PR} (h : Q.map PR.ab = pairsL κ L) (m : Nat) (hm : m + 1 < Q.length) :
    lt (Q[m]'(by omega)).a Q[m + 1].a ∨ ((Q[m]'(by omega)).a = Q[m + 1].a ∧ lt (Q[m]'(by omega)).b Q[m + 1].b) := by
  have p := ris_pairsL (κ := κ) hL
  rw [← h, List.pairwise_map, List.pairwise_iff_getElem] at p
  exact p m (m + 1) (by omega) hm (by omega)
/-- a pair of a string and the least of its kind is told exactly where they are two -/
theorem there_iff {κ : List Nat → List Nat} {T : Nat → List Nat} {k : Nat} {Q : List PR} (h : Q.map PR.ab = pairsL κ (insN T k)) (p i : Nat) (hp : p < k) (hi : i < k) (e : κ (T p) = κ (T i)) (hmin : ∀ j, j < k → κ (T j) = κ (T i) → ¬ lt (T j) (T p)) :
    (∃ q, ∃ (hq : q < Q.length), Q[q].a = T p ∧ Q[q].b = T i) ↔ ¬ (T p = T i) := by
  have m := @mem_pairsL κ (insN T k) (ris_insN T k) (T p) (T i)
  constructor
  · rintro ⟨q, hq, e1, e2⟩ e3
    have hm : (T p, T i) ∈ pairsL κ (insN T k) := by
      rw [← h, List.mem_map]
      exact ⟨Q[q], List.getElem_mem hq, by unfold PR.ab; rw [e1, e2]⟩
    have := (m.1 hm).2.2.2.1
    rw [e3] at this
    exact lt_irrefl _ this
  · intro ne
    have hl : lt (T p) (T i) := by
      rcases lt_tri (T p) (T i) with q | q | q
      · exact q
      · exact absurd q ne
      · exact absurd q (hmin i hi rfl)
    have hm := m.2 ⟨mem_insN.2 ⟨p, hp, rfl⟩, mem_insN.2 ⟨i, hi, rfl⟩, e, hl, fun c hc ec => by
      obtain ⟨j, hj, rfl⟩ := mem_insN.1 hc
      exact hmin j hj (ec.trans e)⟩
    rw [← h, List.mem_map] at hm
    obtain ⟨x, hx, ex⟩ := hm
    obtain ⟨q, hq, rfl⟩ := List.getElem_of_mem hx
    unfold PR.ab at ex
    exact ⟨q, hq, congrArg Prod.fst ex, congrArg Prod.snd ex⟩
/-- what the last loops read -/
theorem St7.hrange {w7 v : World} {F7 : Nat → Prop} {A : Nat → Option Addr} {cC : Nat → Nat} {T : Nat → List Nat} {κ : List Nat → List Nat} {N : Nat} {Q : List PR} {al ah ac : Option Addr} {gl gh gc : Nat} (hκ : ∀ s, IsH (κ s)) (h : St7 w7 F7 A cC T κ N Q al ah ac gl gh gc) (tv : Turn F7 w7 v) (i : Nat) (hi : i < N) :
    v.rangeAt gh (i * 32) (bv (κ (T i))) := by
  intro j u hu
  have hj : j < 32 := by
    obtain ⟨hl, _⟩ := List.getElem?_eq_some_iff.1 hu
    rw [bv_len, (hκ _).1] at hl
    exact hl
  rw [h.hc v tv i hi j hj]
  unfold hA
  rw [List.getElem?_toArray]
  exact hu
theorem minstep {κ : List Nat → List Nat} {T : Nat → List Nat} {p i j : Nat} (hmin : ∀ j', j' < j → κ (T j') = κ (T i) → ¬ lt (T j') (T p)) (hj : κ (T j) = κ (T i) → ¬ lt (T j) (T p)) : ∀ j', j' < j + 1 → κ (T j') = κ (T i) → ¬ lt (T j') (T p) := fun j' h e => by
  by_cases q : j' = j
  · subst q; exact hj e
  · exact hmin j' (by omega) e
theorem minless {κ : List Nat → List Nat} {T : Nat → List Nat} {p i j : Nat} (hmin : ∀ j', j' < j → κ (T j') = κ (T i) → ¬ lt (T j') (T p)) (hj : lt (T j) (T p)) : ∀ j', j' < j + 1 → κ (T j') = κ (T i) → ¬ lt (T j') (T j) := fun j' h e l => by
  by_cases q : j' = j
  · subst q; exact lt_irrefl _ l
  · exact hmin j' (by omega) e (lt_trans l hj)
theorem there_step (Q : List PR) (x y : List Nat) (j : Nat) (hj : j < Q.length) : decide (∃ q, ∃ (hq : q < Q.length), q < j + 1 ∧ Q[q].a = x ∧ Q[q].b = y) = (decide (∃ q, ∃ (hq : q < Q.length), q < j ∧ Q[q].a = x ∧ Q[q].b = y) || (decide (Q[j].a = x) && decide (Q[j].b = y))) := by
  rw [Bool.eq_iff_iff]
  simp only [Bool.or_eq_true, Bool.and_eq_true, decide_eq_true_eq]
  constructor
  · rintro ⟨q, hq, h, e⟩
    by_cases z : q = j
    · subst z; exact Or.inr e
    · exact Or.inl ⟨q, hq, by omega, e⟩
  · rintro (⟨q, hq, h, e⟩ | e)
    · exact ⟨q, hq, by omega, e⟩
    · exact ⟨j, hj, by omega, e⟩
/-- all that the loops behind the first one lean on -/
structure LK (w : World) (PP : World → Prop) (sb k : Nat) (al ah ac : Option Addr) (gl gh gc : Nat) (A : Nat → Option Addr) (bB oO cC : Nat → Nat) (T : Nat → List Nat) (κ : List Nat → List Nat) (Q : List PR) : Prop where
  step : ∀ v v', PP v → Below v.heap.size v v' → PP v'
  below : ∀ v, PP v → Below w.heap.size w v
  lat : 0 < k → al = some ⟨gl, 0, none⟩
  lc : ∀ v, PP v → ∀ i, i < k → v.cell? ⟨gl, i, none⟩ = some (.slice (A i) (T i).length (cC i))
  lv : ∀ v, PP v → ∀ i, i < k → Vw v (A i) (bB i) (oO i) (T i)
  hat : 0 < k → ah = some ⟨gh, 0, none⟩
  hr : ∀ v, PP v → ∀ i, i < k → v.rangeAt gh (i * 32) (bv (κ (T i)))
  cat : 0 < Q.length → ac = some ⟨gc, 0, none⟩
  pr : ∀ j (hj : j < Q.length), ∃ pa ga ca pb gb cb, ∀ v, PP v → (v.cell? ⟨gc, j * 2, none⟩ = some (.slice pa Q[j].a.length ca) ∧ v.cell? ⟨gc, j * 2 + 1, none⟩ = some (.slice pb Q[j].b.length cb)) ∧ (Vw v pa ga 0 Q[j].a ∧ Vw v pb gb 0 Q[j].b) ∧
    (Calls Tryd.prog 16 #[.slice pa Q[j].a.length ca, .slice pb Q[j].b.length cb] v fun e w' => e = .returned (.int .i64 (-1)) ∧ PP w') ∧
    (Calls Tryd.prog 10 #[.pointer (some ⟨sb, 0, none⟩), .slice pa Q[j].a.length ca] v fun e w' => e = .returned (.agg (hA (κ Q[j].a))) ∧ PP w') ∧
    (Calls Tryd.prog 10 #[.pointer (some ⟨sb, 0, none⟩), .slice pb Q[j].b.length cb] v fun e w' => e = .returned (.agg (hA (κ Q[j].a))) ∧ PP w')
  pairs : Q.map PR.ab = pairsL κ (insN T k)
  kb : k ≤ 60
  qb : Q.length ≤ 60
  isH : ∀ s, IsH (κ s)
theorem cmp_pp {PP : World → Prop} (step : ∀ v v', PP v → Below v.heap.size v v' → PP v') {v : World} (hv : PP v) (a a' : Option Addr) (b off c b' off' c' : Nat) (s t : List Nat) (h : Vw v a b off s) (h' : Vw v a' b' off' t) :
    Calls Tryd.prog 16 #[.slice a s.length c, .slice a' t.length c'] v fun e w' => e = .returned (.int .i64 (cmpL s t)) ∧ PP w' :=
  (rcmp_any v a a' b off c b' off' c' s t h h').mono (fun _ _ h => ⟨h.1, by obtain ⟨q, rfl⟩ := h.2; exact step _ _ hv (below_drewN (Below.refl _ _) q)⟩)
theorem same_pp {PP : World → Prop} (step : ∀ v v', PP v → Below v.heap.size v v' → PP v') {v : World} (hv : PP v) (a a' : Option Addr) (b off c b' off' c' : Nat) (s t : List Nat) (h : Vw v a b off s) (h' : Vw v a' b' off' t) :
    Calls Tryd.prog 17 #[.slice a s.length c, .slice a' t.length c'] v fun e w' => e = .returned (.bool (decide (s = t))) ∧ PP w' :=
  (rsame_any v a a' b off c b' off' c' s t h h').mono (fun _ _ h => ⟨h.1, by obtain ⟨q, rfl⟩ := h.2; exact step _ _ hv (below_drewN (Below.refl _ _) q)⟩)
theorem lk_of {w w7 : World} {F7 : Nat → Prop} {sb nb k n b o : Nat} {a al ah ac : Option Addr} {gl gh gc : Nat} {A : Nat → Option Addr} {bB oO cC : Nat → Nat} {T : Nat → List Nat} {Q : List PR} {S : Nat → Nat} (hS : SS w a b o n A bB oO cC T) (hk1 : k ≤ n) (hk2 : k ≤ 60)
    (h7 : St7 w7 F7 A cC T (kh nb) k Q al ah ac gl gh gc) (hQ : Q.map PR.ab = pairsL (kh nb) (insN T k)) : LK w (P2 w w7 F7 sb ⟨nb, 8, S, insN T k, [], []⟩) sb k al ah ac gl gh gc A bB oO cC T (kh nb) Q := by
  have st : ∀ v v', P2 w w7 F7 sb ⟨nb, 8, S, insN T k, [], []⟩ v → Below v.heap.size v v' → P2 w w7 F7 sb ⟨nb, 8, S, insN T k, [], []⟩ v' := fun v v' h hb => h.step hb
  refine ⟨st, fun v h => h.below, h7.lat, fun v h i hi => h7.lc v h.tn i hi, fun v h i hi => (hS.vw i (by omega)).below h.below, h7.hat, fun v h i hi => h7.hrange (kh_isH nb) h.tn i hi, h7.cat, fun j hj => ?_, hQ, hk2, ?_, kh_isH nb⟩
  · have C := h7.cc j hj
    have hm : (Q[j].a, Q[j].b) ∈ pairsL (kh nb) (insN T k) := by
      have h := List.mem_map_of_mem (f := PR.ab) (List.getElem_mem hj)
      rw [hQ] at h
      exact h
    obtain ⟨pa, ga, ca, pb, gb, cb, hv, la, lb, na, nbb⟩ := C
    obtain ⟨ma, mb, ek, hlt, _⟩ := (mem_pairsL (ris_insN T k)).1 hm
    have szL : ∀ s ∈ insN T k, s.length ≤ 140737488355328 := fun s hs => by
      obtain ⟨i, hi, rfl⟩ := mem_insN.1 hs
      exact hS.sz i (by omega)
    have lenL : (insN T k).length ≤ 549755813888 := by have := len_insN T k; omega
    refine ⟨pa, ga, ca, pb, gb, cb, fun v hp => ⟨⟨(hv v hp.tn).1, (hv v hp.tn).2.1⟩, ⟨(hv v hp.tn).2.2.1, (hv v hp.tn).2.2.2⟩, ?_, ?_, ?_⟩⟩
    · have := cmp_pp st hp pa pb ga 0 ca gb 0 cb Q[j].a Q[j].b (hv v hp.tn).2.2.1 (hv v hp.tn).2.2.2
      rw [cmpL_lt hlt] at this
      exact this
    · exact hp.hash (ris_insN T k) lenL pa ga 0 ca Q[j].a (hv v hp.tn).2.2.1 la (szL _ ma) na ma
    · have := hp.hash (ris_insN T k) lenL pb gb 0 cb Q[j].b (hv v hp.tn).2.2.2 lb (szL _ mb) nbb mb
      rw [show kh (⟨nb, 8, S, insN T k, [], []⟩ : Bst).bits Q[j].b = kh nb Q[j].a from ek.symm] at this
      exact this
  · have e : Q.length = (pairsL (kh nb) (insN T k)).length := by rw [← hQ]; simp
    have h1 := pairsL_le (kh nb) (ris_insN T k)
    have h2 := len_insN T k
    omega
end Go.Proofs.YtlhllbggnpcoaaaDoor
