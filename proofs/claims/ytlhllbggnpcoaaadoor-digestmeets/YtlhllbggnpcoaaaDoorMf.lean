import Derived.Test.YtlhllbggnpcoaaaDoorFol
/-
  DigestMeets: what stands still behind the first loop.
-/
namespace Go.Proofs.YtlhllbggnpcoaaaDoor
open Go.RowKit Go.Sort Go.Maps

theorem pairsL_le (κ : List Nat → List Nat) {L : List (List Nat)} (hL : Ris L) : (pairsL κ L).length ≤ L.length := by
  have nd : ((pairsL κ L).map (·.2)).Nodup := by
    unfold List.Nodup
    rw [List.pairwise_map]
    refine List.Pairwise.imp_of_mem (fun {p q} hp hq (hl : ltP p q) e => ?_) (ris_pairsL hL)
    obtain ⟨a, b⟩ := p
    obtain ⟨c, d⟩ := q
    obtain rfl : b = d := e
    obtain ⟨a1, _, a2, _, a3⟩ := (mem_pairsL hL).1 hp
    obtain ⟨c1, _, c2, _, c3⟩ := (mem_pairsL hL).1 hq
    rcases hl with q | ⟨_, q⟩
    · exact c3 a a1 (a2.trans c2.symm) q
    · exact lt_irrefl _ q
  have := nodup_le nd (fun x hx => by
    obtain ⟨⟨a, b⟩, hp, rfl⟩ := List.mem_map.1 hx
    exact ((mem_pairsL hL).1 hp).2.1)
  simpa using this
instance : Inhabited PR := ⟨⟨nilS, [], nilS, []⟩⟩
structure St7 (w7 : World) (F7 : Nat → Prop) (A : Nat → Option Addr) (cC : Nat → Nat) (T : Nat → List Nat) (κ : List Nat → List Nat) (N : Nat) (Q : List PR) (al ah ac : Option Addr) (gl gh gc : Nat) : Prop where
  lat : 0 < N → al = some ⟨gl, 0, none⟩
  lc : ∀ v, Turn F7 w7 v → ∀ i, i < N → v.cell? ⟨gl, i, none⟩ = some (.slice (A i) (T i).length (cC i))
  hat : 0 < N → ah = some ⟨gh, 0, none⟩
  hc : ∀ v, Turn F7 w7 v → ∀ i, i < N → ∀ j, j < 32 → v.cell? ⟨gh, i * 32 + j, none⟩ = (hA (κ (T i)))[j]?
  cat : 0 < Q.length → ac = some ⟨gc, 0, none⟩
  cc : ∀ k (hk : k < Q.length), ∃ pa ga ca pb gb cb, (∀ v, Turn F7 w7 v → v.cell? ⟨gc, k * 2, none⟩ = some (.slice pa Q[k].a.length ca) ∧ v.cell? ⟨gc, k * 2 + 1, none⟩ = some (.slice pb Q[k].b.length cb) ∧ Vw v pa ga 0 Q[k].a ∧ Vw v pb gb 0 Q[k].b) ∧
    Q[k].a.length ≤ ca ∧ Q[k].b.length ≤ cb ∧ (0 < Q[k].a.length → ¬ F7 ga ∧ ga < w7.heap.size) ∧ (0 < Q[k].b.length → ¬ F7 gb ∧ gb < w7.heap.size)

theorem own_at {w : World} {base e size n : Nat} {v : Value} {xs : List Value} (h : w.ownsRow base e size v n xs) : ∃ a g c, v = .slice a n c ∧ (0 < n → a = some ⟨g, 0, none⟩) ∧ (∀ q, v.ownBlock = some q → q = g) ∧ (0 < n → v.ownBlock = some g) := by
  rcases h.2 with ⟨rfl, h0⟩ | ⟨g, cap, cur, rfl, _⟩
  · exact ⟨none, 0, 0, by rw [h0], fun q => by omega, fun q hq => by simp [Value.ownBlock] at hq, fun q => by omega⟩
  · exact ⟨_, g, cap, rfl, fun _ => rfl, fun q hq => by simpa [Value.ownBlock] using hq.symm, fun _ => rfl⟩
theorem add0 (g j : Nat) : (⟨g, 0, none⟩ : Addr).add j = ⟨g, j, none⟩ := by unfold Addr.add; split <;> simp_all
theorem own_cell {w : World} {base e size n g : Nat} {v : Value} {xs : List Value} (h : w.ownsRow base e size v n xs) (hg : v.ownBlock = some g) (j : Nat) (u : Value) (hj : xs[j]? = some u) : w.cell? ⟨g, j, none⟩ = some u := by
  have := h.cells hg j u hj
  rwa [add0] at this

theorem st7 {w7 : World} {F7 : Nat → Prop} {A : Nat → Option Addr} {cC : Nat → Nat} {T : Nat → List Nat} {κ : List Nat → List Nat} {N : Nat} {Q : List PR} {B1 B2 b0 : Nat} {vl vh vc : Value} (hκ : ∀ s, IsH (κ s))
    (ol : w7.ownsRow b0 22 1 vl N (lrow A T cC N)) (nl : ∀ g, vl.ownBlock = some g → ¬ F7 g)
    (oh : w7.ownsRow b0 31 32 vh N (hrow κ T N)) (nh : ∀ g, vh.ownBlock = some g → ¬ F7 g)
    (po : POut w7 B1 vc Q) (np : ∀ i, B1 ≤ i → i < B2 → ¬ F7 i) (pb : ∀ g, vc.ownBlock = some g → g < B2) (pq : ∀ q ∈ Q, (∀ g, q.ua.ownBlock = some g → g < B2) ∧ (∀ g, q.ub.ownBlock = some g → g < B2)) :
    ∃ al ah ac gl gh gc cl ch cap, vl = .slice al N cl ∧ vh = .slice ah N ch ∧ vc = .slice ac Q.length cap ∧ St7 w7 F7 A cC T κ N Q al ah ac gl gh gc := by
  obtain ⟨al, gl, cl, rfl, a1, a2, a3⟩ := own_at ol
  obtain ⟨ah, gh, ch, rfl, b1, b2, b3⟩ := own_at oh
  obtain ⟨ac, gc, cap, rfl, c1, c2, c3⟩ := own_at po.own
  refine ⟨al, ah, ac, gl, gh, gc, cl, ch, cap, rfl, rfl, rfl, a1, fun v tv i hi => ?_, b1, fun v tv i hi j hj => ?_, c1, fun k hk => ?_⟩
  · have o := own_turn ol tv nl
    refine own_cell o (a3 (by omega)) i _ ?_
    unfold lrow
    rw [List.getElem?_map, List.getElem?_range hi]
    rfl
  · have o := own_turn oh tv nh
    have hx := flat_get (fun i => bv (κ (T i))) 32 (fun i => by rw [bv_len, (hκ _).1]) (by decide) (List.range N) (i * 32 + j) (by rw [List.length_range]; omega)
    have e1 : (i * 32 + j) / 32 = i := by omega
    have e2 : (i * 32 + j) % 32 = j := by omega
    rw [e1, e2] at hx
    have e3 : (List.range N)[i]! = i := by rw [getElem!_pos _ i (by simpa using hi), List.getElem_range]
    rw [e3] at hx
    have hb : j < (bv (κ (T i))).length := by rw [bv_len, (hκ _).1]; exact hj
    rw [getElem!_pos _ j hb] at hx
    have hc := own_cell o (b3 (by omega)) (i * 32 + j) _ hx
    rw [hc]
    unfold hA
    rw [List.getElem?_toArray, List.getElem?_eq_getElem hb]
  · have hq : Q[k] ∈ Q := List.getElem_mem hk
    have ok := po.ok _ hq
    have lim := pq _ hq
    obtain ⟨pa, ga, ca, ea, la, va, fa⟩ := ok.sa.view
    obtain ⟨pb', gb, cb, eb, lb, vb, fb⟩ := ok.sb.view
    have oa : 0 < Q[k].a.length → Q[k].ua.ownBlock = some ga := fun h => by
      have := va.at_ h
      rw [ea, this]
      rfl
    have ob : 0 < Q[k].b.length → Q[k].ub.ownBlock = some gb := fun h => by
      have := vb.at_ h
      rw [eb, this]
      rfl
    have na : 0 < Q[k].a.length → ¬ F7 ga ∧ ga < w7.heap.size := fun h => ⟨np ga (fa h).1 (lim.1 ga (oa h)), (fa h).2⟩
    have nb : 0 < Q[k].b.length → ¬ F7 gb ∧ gb < w7.heap.size := fun h => ⟨np gb (fb h).1 (lim.2 gb (ob h)), (fb h).2⟩
    refine ⟨pa, ga, ca, pb', gb, cb, fun v tv => ⟨?_, ?_, va.turn tv (fun h => (na h).1), vb.turn tv (fun h => (nb h).1)⟩, la, lb, na, nb⟩
    · have o := own_turn po.own tv (fun g hg => np g (po.own.lt g hg).1 (pb g hg))
      have hx := flat_get PR.enc 2 (fun _ => rfl) (by decide) Q (k * 2) (by omega)
      have e1 : k * 2 / 2 = k := by omega
      have e2 : k * 2 % 2 = 0 := by omega
      rw [e1, e2, getElem!_pos Q k hk] at hx
      have := own_cell o (c3 (by omega)) (k * 2) _ hx
      rw [this, ← ea]
      rfl
    · have o := own_turn po.own tv (fun g hg => np g (po.own.lt g hg).1 (pb g hg))
      have hx := flat_get PR.enc 2 (fun _ => rfl) (by decide) Q (k * 2 + 1) (by omega)
      have e1 : (k * 2 + 1) / 2 = k := by omega
      have e2 : (k * 2 + 1) % 2 = 1 := by omega
      rw [e1, e2, getElem!_pos Q k hk] at hx
      have := own_cell o (c3 (by omega)) (k * 2 + 1) _ hx
      rw [this, ← eb]
      rfl
/-- a world of the loops behind -/
structure P2 (w0 w7 : World) (F7 : Nat → Prop) (sb : Nat) (st : Bst) (v : World) : Prop where
  mx : ∃ F, MX w0 v sb st F ∧ ∀ i, F i → F7 i ∨ w7.heap.size ≤ i
  tn : Turn F7 w7 v
theorem P2.step {w0 w7 v v' : World} {F7 : Nat → Prop} {sb : Nat} {st : Bst} (h : P2 w0 w7 F7 sb st v) (hb : Below v.heap.size v v') : P2 w0 w7 F7 sb st v' := by
  obtain ⟨F, m, f⟩ := h.mx
  exact ⟨⟨F, m.step hb, f⟩, h.tn.trans (Turn.of_below hb (F := F7)) (fun _ q => Or.inl q)⟩
theorem P2.below {w0 w7 v : World} {F7 : Nat → Prop} {sb : Nat} {st : Bst} (h : P2 w0 w7 F7 sb st v) : Below w0.heap.size w0 v := by
  obtain ⟨F, m, f⟩ := h.mx
  exact m.below
/-- a string that is noted already is hashed -/
theorem P2.hash {w0 w7 v : World} {F7 : Nat → Prop} {sb : Nat} {st : Bst} (h : P2 w0 w7 F7 sb st v) (hr : Ris st.LH) (hL : st.LH.length ≤ 549755813888) (a : Option Addr) (b o c : Nat) (t : List Nat) (hv : Vw v a b o t) (hc : t.length ≤ c) (hs : t.length ≤ 140737488355328) (hf : 0 < t.length → ¬ F7 b ∧ b < w7.heap.size) (hin : t ∈ st.LH) :
    Calls Tryd.prog 10 #[.pointer (some ⟨sb, 0, none⟩), .slice a t.length c] v fun e v' => e = .returned (.agg (hA (kh st.bits t))) ∧ P2 w0 w7 F7 sb st v' := by
  obtain ⟨F, m, f⟩ := h.mx
  refine (hash_any4 v w0.heap.size sb st F m.book m.ground m.big hL a b o c t hv hc hs (fun h0 q => ?_)).mono ?_
  · rcases f b q with q | q
    · exact (hf h0).1 q
    · have := (hf h0).2; omega
  · rintro _ v' ⟨rfl, tn⟩
    rw [ins_mem hr hin] at tn
    obtain ⟨F', m', f'⟩ := m.turned tn
    refine ⟨rfl, ⟨F', m', fun i q => ?_⟩, h.tn.trans tn.turn f⟩
    rcases f' i q with q | q
    · exact f i q
    · exact Or.inr (Nat.le_trans h.tn.size q)
end Go.Proofs.YtlhllbggnpcoaaaDoor
