import Derived.Test.YtdffoghdbfddmaaGreatDoorBbzz
import Derived.Test.YtdffoghdbfddmaaGreatDoorWgzz
import Derived.Test.YtdffoghdbfddmaaGreatDoorWanzz
/-
  cairnlaw01.Apart.
-/
namespace Go.Proofs.YtdffoghdbfddmaaGreatDoor
open Go Go.Ev Go.Sy
set_option maxRecDepth 100000
variable {s : St} {q r : Option Addr} {c d : Nat} {M N : List Nat}
theorem lay_set {L : List Nat} {i x : Nat} (hi : i < L.length) : lov (L.map nB) i [nB x] = (L.set i x).map nB := by
  unfold lov
  rw [List.set_eq_take_append_cons_drop, if_pos hi, List.map_append, List.map_take, List.map_cons, List.map_drop]; rfl
theorem Gw.set {s s' : St} {q : Option Addr} {n c b γ : Nat} {A A' : List Nat} (h : Gw s q n c 1 (A.map nB) γ) (hq : q = some ⟨b, 0, none⟩) (hr : Rw s' b (A'.map nB) γ) (hl : A'.length = A.length) : Gw s' q n c 1 (A'.map nB) γ := by
  obtain ⟨g, h1, h2⟩ := hr
  refine ⟨by rw [List.length_map, hl, ← h.len, List.length_map], .inr ⟨b, g, hq, h1, h2, ?_⟩⟩
  rcases h.at' with ⟨e, _⟩ | ⟨b', g', _, _, _, e⟩
  · rw [hq] at e; cases e
  · exact e
/-- The mark of a list. -/
def mrk (i : Nat) : Nat := (i + 1) % 256
/-- What the lists are when those ahead of i are marked, and i as far as j. -/
def mkd (L : Nat → List Nat) (i j t : Nat) : List Nat := if t < i then List.replicate (L t).length (mrk t) else if t = i then List.replicate j (mrk i) ++ (L i).drop j else L t
theorem mkd_length {L : Nat → List Nat} {i j t : Nat} (hj : j ≤ (L i).length) : (mkd L i j t).length = (L t).length := by
  unfold mkd
  split
  · exact List.length_replicate
  · split
    · rename_i e; subst e; rw [List.length_append, List.length_replicate, List.length_drop]; omega
    · rfl
theorem mkd_zero {L : Nat → List Nat} {i t : Nat} : mkd L i 0 t = if t < i then List.replicate (L t).length (mrk t) else L t := by
  unfold mkd
  split
  · rfl
  · split
    · rename_i e; subst e; rfl
    · rfl
theorem mkd_full {L : Nat → List Nat} {i t : Nat} : mkd L i (L i).length t = mkd L (i + 1) 0 t := by
  rw [mkd_zero]
  unfold mkd
  by_cases h1 : t < i
  · rw [if_pos h1, if_pos (by omega)]
  · by_cases h2 : t = i
    · subst h2; rw [if_neg h1, if_pos rfl, if_pos (by omega), List.drop_eq_nil_of_le (Nat.le_refl _), List.append_nil]
    · rw [if_neg h1, if_neg h2, if_neg (by omega)]
theorem mkd_step {L : Nat → List Nat} {i j : Nat} (hj : j < (L i).length) : (mkd L i j i).set j (mrk i) = mkd L i (j + 1) i := by
  unfold mkd
  rw [if_neg (Nat.lt_irrefl _), if_neg (Nat.lt_irrefl _), if_pos rfl, if_pos rfl, List.set_append_right _ _ (by rw [List.length_replicate]; omega), List.length_replicate, Nat.sub_self, List.drop_eq_getElem_cons hj]
  show List.replicate j (mrk i) ++ mrk i :: (L i).drop (j + 1) = _
  rw [List.replicate_succ', List.append_assoc]; rfl
theorem mkd_other {L : Nat → List Nat} {i j k t : Nat} (h : t ≠ i) : mkd L i j t = mkd L i k t := by
  unfold mkd
  rw [if_neg h, if_neg h]
/-- The lists, as they stand. -/
structure Pt (s0 s : St) (q : Option Addr) (cs : List Value) (γl m : Nat) (Q : Nat → Option Addr) (n C γ : Nat → Nat) (A : Nat → List Nat) : Prop where
  wf : Wf s
  sl : Sl s q cs γl
  gw : ∀ t, t < m → Gw s (Q t) (n t) (C t) 1 ((A t).map nB) (γ t)
  kp : Kp (fun c => ∃ t, t < m ∧ Q t ≠ none ∧ c = γ t) s0 s
  nx : s.nx = s0.nx
/-- A list on its way to eighty bytes more. -/
structure Xg (s2 s3 : St) (Qi : Option Addr) (Ci γi n mk k : Nat) (qx : Option Addr) (cx γx : Nat) : Prop where
  wf : Wf s3
  gw : Gw s3 qx (n + k) cx 1 ((List.replicate (n + k) mk).map nB) γx
  l0 : Sl s3 Qi ((List.replicate n mk).map nB) γi
  kp : Kp (fun c => (Qi ≠ none ∧ c = γi) ∨ s2.nx ≤ c) s2 s3
  alt : (k = 0 ∧ qx = Qi ∧ cx = Ci ∧ γx = γi) ∨ s2.nx ≤ γx ∨ (γx = γi ∧ Qi ≠ none ∧ 0 < k ∧ ∃ b0 bx, Qi = some ⟨b0, 0, none⟩ ∧ qx = some ⟨bx, 0, none⟩ ∧ cx = least (n + k) 1 ∧ Anc s3 b0 ((List.replicate n mk).map nB) bx γi (k - 1) ∧ s3.hp.get bx = some (.row ((List.replicate (n + k) mk).map nB) γi))
theorem rep_app {n mk : Nat} : (List.replicate n mk).map nB ++ [nB mk] = (List.replicate (n + 1) mk).map nB := by rw [List.replicate_succ', List.map_append]; rfl
theorem apart_ok {cs : List Value} {γl m : Nat} {Q : Nat → Option Addr} {C γ : Nat → Nat} {L : Nat → List Nat} (w : Wf s) (hs : Sl s q cs γl) (hlen : cs.length = m) (hm : m < 9000000000000)
    (hc : ∀ i, i < m → cs[i]? = some (.slice (Q i) (L i).length (C i))) (hg : ∀ i, i < m → Gw s (Q i) (L i).length (C i) 1 ((L i).map nB) (γ i)) (hL : ∀ i, i < m → (L i).length < 2 ^ 47)
    (hγ : ∀ i j, i < m → j < m → i ≠ j → Q i ≠ none → Q j ≠ none → γ i ≠ γ j) (hγl : ∀ i, i < m → Q i ≠ none → γ i ≠ γl) (hγs : γl < s.nx ∧ ∀ i, i < m → Q i ≠ none → γ i < s.nx) :
    Cl B (.call 10 [.slice q m c]) s fun v s' => v = .bool true ∧ Kp (fun c => (∃ t, t < m ∧ Q t ≠ none ∧ c = γ t) ∨ s.nx ≤ c) s s' := by
  refine Cl.enter Tryz.f10 fn10 rfl rfl rfl ?_
  refine run1 ?_
  have key : ∀ {s1 : St} {A : Nat → List Nat} {i : Nat}, Pt s s1 q cs γl m Q (fun t => (L t).length) C γ A → i < m → ldq s1 (qadd q (i * 1)) = some (.slice (Q i) (L i).length (C i)) ∧ good q := fun {s1 A i} P hi => by
    have h1 := At.ld P.sl.at (i := i) (by omega)
    rw [Nat.mul_one, h1, ← List.getElem?_eq_getElem]
    exact ⟨hc i hi, At.good P.sl.at (i := i) (by omega)⟩
  refine W.loop (α := Nat × St) (fun p => [(0, .slice q m c), (3, nI p.1)]) (fun _ => []) (fun p => p.2)
    (fun p => p.1 ≤ m ∧ Pt s p.2 q cs γl m Q (fun t => (L t).length) C γ (mkd L p.1 0)) (fun p => m - p.1) (0, s) ⟨Nat.zero_le _, w, hs, fun t ht => by rw [mkd_zero, if_neg (by omega)]; exact hg t ht, .refl, rfl⟩ (.cons rfl (.cons rfl .nil)) rfl rfl (by show m - 0 < _; omega) ?_
  rintro ⟨i, s1⟩ ⟨k1, P1⟩
  dsimp only at k1 P1 ⊢
  by_cases hi : i < m
  · refine run1 ?_
    refine W.loop (α := Nat × St) (fun p => [(0, .slice q m c), (3, nI i), (4, nI p.1)]) (fun _ => []) (fun p => p.2)
      (fun p => p.1 ≤ (L i).length ∧ Pt s p.2 q cs γl m Q (fun t => (L t).length) C γ (mkd L i p.1)) (fun p => (L i).length - p.1) (0, s1) ⟨Nat.zero_le _, P1⟩ (.cons rfl (.cons rfl (.cons rfl .nil))) rfl rfl (by have := hL i hi; show (L i).length - 0 < _; omega) ?_
    rintro ⟨j, s2⟩ ⟨k2, P2⟩
    dsimp only at k2 P2 ⊢
    obtain ⟨l1, gq⟩ := key P2 hi
    have hLi := hL i hi
    by_cases hj : j < (L i).length
    · obtain ⟨b, hQ, hrw, _⟩ := (P2.gw i hi).rw (by omega)
      rw [hQ] at l1
      have gb : good (some (⟨b, 0, none⟩ : Addr)) := ⟨b, 0, rfl⟩
      refine run1 ?_
      have hml : (mkd L i j i).length = (L i).length := mkd_length k2
      refine Wo.st rfl rfl rfl rfl rfl rfl rfl (by intro v hv; rw [List.mem_singleton] at hv; rw [hv]; rfl) hrw (by rw [List.length_map]; omega) ?_
      intro s3 j1 j2 j3
      have e : lov ((mkd L i j i).map nB) (0 + j * 1) [nB ((i + 1).mod 256)] = (mkd L i (j + 1) i).map nB := by
        rw [Nat.zero_add, Nat.mul_one, lay_set (by omega)]; show ((mkd L i j i).set j (mrk i)).map nB = _; rw [mkd_step hj]
      have j1' : Rw s3 b (lov ((mkd L i j i).map nB) (0 + j * 1) [nB ((i + 1).mod 256)]) (γ i) := j1
      rw [e] at j1'
      refine run1 ?_
      have hQn : Q i ≠ none := by rw [hQ]; exact fun h => by cases h
      refine rnd.n (j + 1, s3) ⟨hj, j3.wf P2.wf, P2.sl.kp P2.wf j3 (fun h => hγl i hi hQn h.symm), fun t ht => ?_, P2.kp.trans (j3.mono fun c h => ⟨i, hi, hQn, h⟩), j2.trans P2.nx⟩ (by show (L i).length - (j + 1) < (L i).length - j; omega) (.cons rfl (.cons rfl (.cons rfl .nil))) rfl rfl
      by_cases ht' : t = i
      · subst ht'; exact Gw.set (P2.gw t ht) hQ j1' (by rw [mkd_length hj, hml])
      · rw [mkd_other (k := j) ht']
        have hgt := P2.gw t ht
        by_cases hQt : Q t = none
        · rcases hgt.at' with ⟨a1, a2, a3⟩ | ⟨b', g', a1, _⟩
          · exact ⟨hgt.len, .inl ⟨a1, a2, a3⟩⟩
          · rw [hQt] at a1; cases a1
        · exact hgt.kp P2.wf j3 (hγ t i ht hi ht' hQt hQn)
    · refine run1 ?_
      have hje : j = (L i).length := by omega
      subst hje
      rw [show mkd L i (L i).length = mkd L (i + 1) 0 from funext fun t => mkd_full] at P2
      exact rnd.n (i + 1, s2) ⟨hi, P2⟩ (by show m - (i + 1) < m - i; omega) (.cons rfl (.cons rfl .nil)) rfl rfl
  · refine run1 ?_
    have hie : i = m := by omega
    subst hie
    have P2 : ∀ t, t < i → Gw s1 (Q t) (L t).length (C t) 1 ((List.replicate (L t).length (mrk t)).map nB) (γ t) := fun t ht => by
      have := P1.gw t ht; rwa [mkd_zero, if_pos ht] at this
    refine W.loop (α := Nat × St × (Option Addr × Nat × Nat) × List Value × (Nat → Nat)) (fun p => [(0, .slice q i c), (5, .slice p.2.2.1.1 p.1 p.2.2.1.2.1), (6, nI p.1)]) (fun _ => []) (fun p => p.2.1)
      (fun p => p.1 ≤ i ∧ Wf p.2.1 ∧ Sl p.2.1 q cs γl ∧ (∀ t, t < i → p.1 ≤ t → Gw p.2.1 (Q t) (L t).length (C t) 1 ((List.replicate (L t).length (mrk t)).map nB) (γ t)) ∧
        (∀ t, t < p.1 → Sl p.2.1 (Q t) ((List.replicate (L t).length (mrk t)).map nB) (γ t) ∧ ∃ q' c', p.2.2.2.1[t]? = some (.slice q' ((L t).length + 80) c') ∧ Sl p.2.1 q' ((List.replicate ((L t).length + 80) (mrk t)).map nB) (p.2.2.2.2 t) ∧ ((Q t ≠ none ∧ p.2.2.2.2 t = γ t) ∨ s.nx ≤ p.2.2.2.2 t) ∧ p.2.2.2.2 t < p.2.1.nx ∧ (p.2.2.1.1 ≠ none → p.2.2.2.2 t ≠ p.2.2.1.2.2)) ∧
        Gw p.2.1 p.2.2.1.1 p.1 p.2.2.1.2.1 1 p.2.2.2.1 p.2.2.1.2.2 ∧ (p.2.2.1.1 ≠ none → s.nx ≤ p.2.2.1.2.2) ∧ Kp (fun c => (∃ t, t < i ∧ Q t ≠ none ∧ c = γ t) ∨ s.nx ≤ c) s p.2.1)
      (fun p => i - p.1) (0, s1, (none, 0, 0), [], fun _ => 0) ⟨Nat.zero_le _, P1.wf, P1.sl, fun t ht _ => P2 t ht, fun t ht => by omega, Gw.nil, fun h => absurd rfl h, P1.kp.mono fun _ h => .inl h⟩ (.cons rfl (.cons rfl (.cons rfl .nil))) rfl rfl (by show i - 0 < _; omega) ?_
    rintro ⟨j, s2, ⟨qL, cL, γL⟩, xs, δ⟩ ⟨j1, w2, j2, j3, j4, j5, j6, j7⟩
    dsimp only at j1 w2 j2 j3 j4 j5 j6 j7 ⊢
    by_cases hj : j < i
    · have l1 : ldq s2 (qadd q (j * 1)) = some (.slice (Q j) (L j).length (C j)) := by
        rw [Nat.mul_one, At.ld j2.at (i := j) (by omega), ← List.getElem?_eq_getElem]; exact hc j hj
      have gq : good q := At.good j2.at (i := j) (by omega)
      have hLj := hL j hj
      refine run1 ?_
      refine W.loop (α := Nat × St × Option Addr × Nat × Nat) (fun p => [(0, .slice q i c), (5, .slice qL j cL), (6, nI j), (7, .slice p.2.2.1 ((L j).length + p.1) p.2.2.2.1), (8, nI p.1)]) (fun _ => []) (fun p => p.2.1)
        (fun p => p.1 ≤ 80 ∧ Xg s2 p.2.1 (Q j) (C j) (γ j) (L j).length (mrk j) p.1 p.2.2.1 p.2.2.2.1 p.2.2.2.2) (fun p => 80 - p.1) (0, s2, Q j, C j, γ j) ⟨Nat.zero_le _, w2, j3 j hj (Nat.le_refl _), (j3 j hj (Nat.le_refl _)).sl, .refl, .inl ⟨rfl, rfl, rfl, rfl⟩⟩ (.cons rfl (.cons rfl (.cons rfl (.cons rfl (.cons rfl .nil))))) rfl rfl (by show 80 - 0 < _; omega) ?_
      rintro ⟨k, s3, qx, cx, γx⟩ ⟨k2, G⟩
      dsimp only at k2 G ⊢
      by_cases hk : k < 80
      · refine run1 ?_
        have hcells : cellsFrom (mkRow s3 [nB (mrk j)]) 1 1 (.slice (some ⟨s3.nx, 0, none⟩) 1 (sure 1)) = some [nB (mrk j)] := cells_at mkRow_sl.at rfl (by decide)
        have hone : ∀ v ∈ [nB (mrk j)], one v = true := fun v hv => by rw [List.mem_singleton] at hv; rw [hv]; rfl
        have w3 : Wf (mkRow s3 [nB (mrk j)]) := mkRow_wf G.wf
        have gw' := G.gw.kp G.wf (mkRow_kn (cs := [nB (mrk j)])) id
        have l0' := G.l0.kp G.wf (mkRow_kn (cs := [nB (mrk j)])) id
        have kp' : Kp (fun c => (Q j ≠ none ∧ c = γ j) ∨ s2.nx ≤ c) s2 (mkRow s3 [nB (mrk j)]) := G.kp.trans (mkRow_kn.mono fun _ h => h.elim)
        have hγj : Q j ≠ none → γ j < s2.nx := fun hQ => by
          rcases (j3 j hj (Nat.le_refl _)).at' with ⟨e, _⟩ | ⟨b, g, _, h1, h2, _⟩
          · exact absurd e hQ
          · rw [← h2]; exact (w2.lt b _ h1).2
        have l0k : ∀ {s' : St} {C' : Nat → Prop}, Kp C' (mkRow s3 [nB (mrk j)]) s' → (Q j ≠ none → ¬ C' (γ j)) → Sl s' (Q j) ((List.replicate (L j).length (mrk j)).map nB) (γ j) := fun {s' C'} k hC => by
          by_cases hQ : Q j = none
          · rcases l0' with h | ⟨b, o, ob, l, h, _⟩
            · exact .inl h
            · rw [hQ] at h; cases h
          · exact l0'.kp w3 k (hC hQ)
        rcases G.alt with ⟨rfl, rfl, rfl, rfl⟩ | hfr | ⟨rfl, hQn, hk0, b0, bx, hQ, rfl, rfl, hA, hbx⟩
        · by_cases hnew : Q j = none ∨ C j = sure ((L j).length + 0)
          · refine Wo.appN rfl rfl rfl rfl rfl rfl rfl rfl rfl w3 gw' rfl hcells rfl hone rfl (by omega) (by omega) hnew (by decide) ?_
            intro q' c' s' h1 h2
            refine run1 ?_
            refine rnd.n (0 + 1, s', q', c', (mkRow s3 [nB (mrk j)]).nx) ⟨by omega, h2.wf w3, ?_, l0k h2 fun _ => id, kp'.trans (h2.mono fun _ h => h.elim), .inr (.inl ?_)⟩ (by show 80 - (0 + 1) < 80 - 0; omega) (.cons rfl (.cons rfl (.cons rfl (.cons rfl (.cons rfl .nil))))) rfl rfl
            · rw [rep_app] at h1; exact h1
            · exact Nat.le_trans G.kp.le (Nat.le_succ _)
          · rcases gw'.at' with ⟨e, _⟩ | ⟨b, g, e, h1, h2, h3⟩
            · exact absurd (.inl e) hnew
            · rcases h3 with h3 | h3
              · have hQn : Q j ≠ none := fun h => by rw [h] at e; cases e
                obtain ⟨s', x1, x2, x3, x4, x5⟩ := anc0 (need := (L j).length + 0 + 1) (es := 1) (new := [nB (mrk j)]) w3 h1 (by omega)
                rw [h2] at x2 x4 x5
                refine Wo.apx rfl rfl rfl rfl rfl rfl (show some (Value.slice (Q j) ((L j).length + 0) (C j)) = some (Value.slice (some ⟨b, 0, none⟩) ((L j).length + 0) (least ((L j).length + 0) 1)) by rw [e, h3]) rfl h1 (by simp) rfl hcells (by simp) hone (by decide) rfl (by omega) (by omega) x1 ?_
                refine run1 ?_
                rw [rep_app] at x2
                refine rnd.n (0 + 1, s', some ⟨(mkRow s3 [nB (mrk j)]).nx, 0, none⟩, least ((L j).length + 0 + 1) 1, γ j) ⟨by omega, x4.wf w3, ⟨by simp, .inr ⟨_, _, rfl, x2, grpOf_pos x5.nz, .inl rfl⟩⟩, by rw [e]; exact x5.sl, kp'.trans (x4.mono fun c h => .inl ⟨hQn, h⟩), .inr (.inr ⟨rfl, hQn, by omega, b, _, e, rfl, rfl, x5, x2⟩)⟩ (by show 80 - (0 + 1) < 80 - 0; omega) (.cons rfl (.cons rfl (.cons rfl (.cons rfl (.cons rfl .nil))))) rfl rfl
              · exact absurd (.inr h3) hnew
        · refine Wo.app rfl rfl rfl rfl rfl rfl rfl rfl rfl w3 gw' rfl hcells rfl hone rfl (by omega) (by omega) ?_
          intro q' c' γ' s' h1 h2 h3
          rw [rep_app] at h1
          refine run1 ?_
          refine rnd.n (k + 1, s', q', c', γ') ⟨by omega, h2.wf w3, h1, l0k h2 fun hQ h => by have := hγj hQ; omega, kp'.trans (h2.mono fun c h => .inr (by rw [h]; exact hfr)), .inr (.inl ?_)⟩ (by show 80 - (k + 1) < 80 - k; omega) (.cons rfl (.cons rfl (.cons rfl (.cons rfl (.cons rfl .nil))))) rfl rfl
          rcases h3 with h3 | ⟨h3, _⟩
          · rw [h3]; exact hfr
          · rw [h3]; exact Nat.le_trans G.kp.le (Nat.le_succ _)
        · obtain ⟨s', x1, x2, x3, x4, x5⟩ := anc1 (need := (L j).length + k + 1) (es := 1) (new := [nB (mrk j)]) w3 (hA.row G.wf) (mkRow_kn.kp G.wf bx _ hbx id) (by simp) (by omega) (by omega)
          refine Wo.apx rfl rfl rfl rfl rfl rfl rfl rfl (mkRow_kn.kp G.wf bx _ hbx id) (by simp) rfl hcells (by simp) hone (by decide) rfl (by omega) (by omega) x1 ?_
          refine run1 ?_
          rw [rep_app] at x2
          rw [show k - 1 + 1 = k + 1 - 1 by omega] at x5
          refine rnd.n (k + 1, s', some ⟨(mkRow s3 [nB (mrk j)]).nx, 0, none⟩, least ((L j).length + k + 1) 1, γ j) ⟨by omega, x4.wf w3, ⟨by simp, .inr ⟨_, _, rfl, x2, grpOf_pos x5.nz, .inl rfl⟩⟩, by rw [hQ]; exact x5.sl, kp'.trans (x4.mono fun c h => .inl ⟨hQn, h⟩), .inr (.inr ⟨rfl, hQn, by omega, b0, _, hQ, rfl, rfl, x5, x2⟩)⟩ (by show 80 - (k + 1) < 80 - k; omega) (.cons rfl (.cons rfl (.cons rfl (.cons rfl (.cons rfl .nil))))) rfl rfl
      · have hk80 : k = 80 := by omega
        subst hk80
        refine run1 ?_
        have w3 : Wf (mkRow s3 [.slice qx ((L j).length + 80) cx]) := mkRow_wf G.wf
        have hcells : cellsFrom (mkRow s3 [.slice qx ((L j).length + 80) cx]) 1 1 (.slice (some ⟨s3.nx, 0, none⟩) 1 (sure 1)) = some [.slice qx ((L j).length + 80) cx] := cells_at mkRow_sl.at rfl (by decide)
        have hone : ∀ v ∈ [Value.slice qx ((L j).length + 80) cx], one v = true := fun v hv => by rw [List.mem_singleton] at hv; rw [hv]; rfl
        have hγx : γx < s3.nx := by
          obtain ⟨b, _, ⟨g, h1, h2⟩, _⟩ := G.gw.rw (by omega)
          rw [← h2]; exact (G.wf.lt b _ h1).2
        have hγL : qL ≠ none → γL < s2.nx := fun h => by
          rcases j5.at' with ⟨e, _⟩ | ⟨b, g, _, h1, h2, _⟩
          · exact absurd e h
          · rw [← h2]; exact (w2.lt b _ h1).2
        have hs2 : s.nx ≤ s2.nx := j7.le
        have gL : Gw (mkRow s3 [.slice qx ((L j).length + 80) cx]) qL j cL 1 xs γL := by
          by_cases hq : qL = none
          · rcases j5.at' with ⟨a1, a2, a3⟩ | ⟨b', g', a1, _⟩
            · exact ⟨j5.len, .inl ⟨a1, a2, a3⟩⟩
            · rw [hq] at a1; cases a1
          · refine (j5.kp w2 G.kp fun h => ?_).kp G.wf mkRow_kn id
            rcases h with ⟨h1, h2⟩ | h
            · have := hγs.2 j hj h1; have := j6 hq; omega
            · have := hγL hq; omega
        have fin : ∀ {q' : Option Addr} {c' γ' : Nat} {s4 : St}, Gw s4 q' (j + 1) c' 1 (xs ++ [.slice qx ((L j).length + 80) cx]) γ' → Kp (fun c => qL ≠ none ∧ c = γL) (mkRow s3 [.slice qx ((L j).length + 80) cx]) s4 → ((qL ≠ none ∧ γ' = γL) ∨ γ' = s3.nx + 1) →
            Wf s4 ∧ Sl s4 q cs γl ∧ (∀ t, t < i → j + 1 ≤ t → Gw s4 (Q t) (L t).length (C t) 1 ((List.replicate (L t).length (mrk t)).map nB) (γ t)) ∧
            (∀ t, t < j + 1 → Sl s4 (Q t) ((List.replicate (L t).length (mrk t)).map nB) (γ t) ∧ ∃ q1 c1, (xs ++ [.slice qx ((L j).length + 80) cx])[t]? = some (.slice q1 ((L t).length + 80) c1) ∧ Sl s4 q1 ((List.replicate ((L t).length + 80) (mrk t)).map nB) (if t = j then γx else δ t) ∧ ((Q t ≠ none ∧ (if t = j then γx else δ t) = γ t) ∨ s.nx ≤ (if t = j then γx else δ t)) ∧ (if t = j then γx else δ t) < s4.nx ∧ (q' ≠ none → (if t = j then γx else δ t) ≠ γ')) ∧
            (q' ≠ none → s.nx ≤ γ') ∧ Kp (fun c => (∃ t, t < i ∧ Q t ≠ none ∧ c = γ t) ∨ s.nx ≤ c) s s4 := fun {q' c' γ' s4} h1 h2 h3 => by
          have K3 : Kp (fun c => (Q j ≠ none ∧ c = γ j) ∨ (qL ≠ none ∧ c = γL) ∨ s2.nx ≤ c) s2 s3 := G.kp.mono fun c h => h.imp id .inr
          have K4 : Kp (fun c => (Q j ≠ none ∧ c = γ j) ∨ (qL ≠ none ∧ c = γL) ∨ s2.nx ≤ c) s2 s4 := K3.trans ((mkRow_kn.mono fun _ h => h.elim).trans (h2.mono fun c h => .inr (.inl h)))
          have k34 : Kp (fun c => qL ≠ none ∧ c = γL) s3 s4 := (mkRow_kn.mono fun _ h => h.elim).trans h2
          have n34 : s3.nx + 1 ≤ s4.nx := h2.le
          have n23 := G.kp.le
          have hc4 : ∀ {κ : Nat}, κ < s2.nx → (Q j ≠ none → κ ≠ γ j) → (qL ≠ none → κ ≠ γL) → ¬ ((Q j ≠ none ∧ κ = γ j) ∨ (qL ≠ none ∧ κ = γL) ∨ s2.nx ≤ κ) := fun a b e h => by
            rcases h with ⟨x, y⟩ | ⟨x, y⟩ | x
            · exact b x y
            · exact e x y
            · omega
          have hold : ∀ t, t < i → t ≠ j → Q t ≠ none → ¬ ((Q j ≠ none ∧ γ t = γ j) ∨ (qL ≠ none ∧ γ t = γL) ∨ s2.nx ≤ γ t) := fun t ht htj hQt => hc4 (by have := hγs.2 t ht hQt; omega) (fun hQj => hγ t j ht hj htj hQt hQj) (fun hL' => by have := hγs.2 t ht hQt; have := j6 hL'; omega)
          refine ⟨K4.wf w2, j2.kp w2 K4 (hc4 (by have := hγs.1; omega) (fun h e => hγl j hj h e.symm) (fun h => by have := j6 h; have := hγs.1; omega)), fun t ht htj => ?_, fun t ht => ?_, fun _ => ?_, ?_⟩
          · have hgt := j3 t ht (by omega)
            by_cases hQt : Q t = none
            · rcases hgt.at' with ⟨a1, a2, a3⟩ | ⟨b', g', a1, _⟩
              · exact ⟨hgt.len, .inl ⟨a1, a2, a3⟩⟩
              · rw [hQt] at a1; cases a1
            · exact hgt.kp w2 K4 (hold t ht (by omega) hQt)
          · by_cases htj : t = j
            · subst htj
              simp only [if_true]
              have hx3 : qL ≠ none → γx ≠ γL := fun hL' => by
                rcases G.alt with ⟨e, _⟩ | h | ⟨rfl, hQn, _⟩
                · omega
                · have := hγL hL'; omega
                · have := hγs.2 t hj hQn; have := j6 hL'; omega
              refine ⟨?_, qx, cx, ?_, G.gw.sl.kp G.wf k34 (fun h => hx3 h.1 h.2), ?_, by omega, fun _ => ?_⟩
              · by_cases hQ : Q t = none
                · rcases G.l0 with h | ⟨b, o, ob, l, h, _⟩
                  · exact .inl h
                  · rw [hQ] at h; cases h
                · exact G.l0.kp G.wf k34 fun h => by have := hγs.2 t hj hQ; have := j6 h.1; omega
              · have hxl : xs.length = t := by have := j5.len; omega
                rw [List.getElem?_append_right (by omega), hxl, Nat.sub_self]; rfl
              · rcases G.alt with ⟨e, _⟩ | h | ⟨h1', hQn, _⟩
                · omega
                · exact .inr (by omega)
                · exact .inl ⟨hQn, h1'⟩
              · rcases h3 with ⟨a, rfl⟩ | rfl
                · exact hx3 a
                · omega
            · obtain ⟨a1, q1, c1, a2, a3, a4, a5, a6⟩ := j4 t (by omega)
              have hti : t < i := by omega
              simp only [if_neg htj]
              refine ⟨?_, q1, c1, ?_, a3.kp w2 K4 (hc4 a5 (fun hQj e => ?_) a6), a4, by omega, fun _ => ?_⟩
              · by_cases hQ : Q t = none
                · rcases a1 with h | ⟨b, o, ob, l, h, _⟩
                  · exact .inl h
                  · rw [hQ] at h; cases h
                · exact a1.kp w2 K4 (hold t hti htj hQ)
              · have hxl : xs.length = j := by have := j5.len; omega
                rw [List.getElem?_append_left (by omega)]; exact a2
              · have hj0 := hγs.2 j hj hQj
                rcases a4 with ⟨b1, b2⟩ | b
                · exact hγ t j hti hj htj b1 hQj (b2.symm.trans e)
                · omega
              · rcases h3 with ⟨a, rfl⟩ | rfl
                · exact a6 a
                · omega
          · rcases h3 with ⟨a, rfl⟩ | rfl
            · exact j6 a
            · omega
          · refine j7.trans (K4.mono fun c h => ?_)
            rcases h with ⟨x, y⟩ | ⟨x, y⟩ | x
            · exact .inl ⟨j, hj, x, y⟩
            · exact .inr (by rw [y]; exact j6 x)
            · exact .inr (by omega)
        by_cases hq : qL = none
        · refine Wo.appN rfl rfl rfl rfl rfl rfl rfl rfl rfl w3 gL rfl hcells rfl hone rfl (by omega) (by omega) (.inl hq) (by decide) ?_
          intro q' c' s4 h1 h2
          refine run1 ?_
          obtain ⟨f1, f2, f3, f4, f5, f6⟩ := fin h1 (h2.mono fun _ h => h.elim) (.inr rfl)
          exact rnd.n (j + 1, s4, (q', c', s3.nx + 1), xs ++ [.slice qx ((L j).length + 80) cx], fun t => if t = j then γx else δ t) ⟨hj, f1, f2, f3, f4, h1, f5, f6⟩ (by show i - (j + 1) < i - j; omega) (.cons rfl (.cons rfl (.cons rfl .nil))) rfl rfl
        · refine Wo.app rfl rfl rfl rfl rfl rfl rfl rfl rfl w3 gL rfl hcells rfl hone rfl (by omega) (by omega) ?_
          intro q' c' γ' s4 h1 h2 h3
          refine run1 ?_
          obtain ⟨f1, f2, f3, f4, f5, f6⟩ := fin h1 (h2.mono fun _ h => ⟨hq, h⟩) (h3.imp (fun h => ⟨hq, h⟩) fun h => h.1)
          exact rnd.n (j + 1, s4, (q', c', γ'), xs ++ [.slice qx ((L j).length + 80) cx], fun t => if t = j then γx else δ t) ⟨hj, f1, f2, f3, f4, h1, f5, f6⟩ (by show i - (j + 1) < i - j; omega) (.cons rfl (.cons rfl (.cons rfl .nil))) rfl rfl
    · have hje : j = i := by omega
      subst hje
      refine run1 ?_
      refine W.loop (α := Nat) (fun t => [(0, .slice q j c), (5, .slice qL j cL), (9, nI t)]) (fun _ => []) (fun _ => s2)
        (fun t => t ≤ j) (fun t => j - t) 0 (Nat.zero_le _) (.cons rfl (.cons rfl (.cons rfl .nil))) rfl rfl (by omega) ?_
      intro t ht
      by_cases htj : t < j
      · obtain ⟨a1, q1, c1, a2, a3, _⟩ := j4 t htj
        have hxl : xs.length = j := by have := j5.len; omega
        have hL1 := hL t htj
        have l1 : ldq s2 (qadd qL (t * 1)) = some (.slice q1 ((L t).length + 80) c1) := by
          rw [Nat.mul_one, At.ld j5.sl.at (i := t) (by omega), ← List.getElem?_eq_getElem]; exact a2
        have l2 : ldq s2 (qadd q (t * 1)) = some (.slice (Q t) (L t).length (C t)) := by
          rw [Nat.mul_one, At.ld j2.at (i := t) (by omega), ← List.getElem?_eq_getElem]; exact hc t htj
        have gL : good qL := At.good j5.sl.at (i := t) (by omega)
        have gq : good q := At.good j2.at (i := t) (by omega)
        have hB1 : Bs s2 q1 (List.replicate ((L t).length + 80) (mrk t)) := a3.at
        have hB2 : Bs s2 (Q t) (List.replicate (L t).length (mrk t)) := a1.at
        have n1 : (List.replicate ((L t).length + 80) (mrk t)).length = (L t).length + 80 := List.length_replicate
        have n2 : (List.replicate (L t).length (mrk t)).length = (L t).length := List.length_replicate
        have gd : ∀ {n k : Nat}, k < n → (List.replicate n (mrk t)).getD k 0 = (t + 1).mod 256 := fun {n k} h => by
          rw [List.getD_eq_getElem?_getD, List.getElem?_replicate, if_pos h]; rfl
        refine run1 ?_
        refine W.loop (α := Nat) (fun k => [(0, .slice q j c), (5, .slice qL j cL), (9, nI t), (10, nI k)]) (fun _ => []) (fun _ => s2)
          (fun k => k ≤ (L t).length + 80) (fun k => (L t).length + 80 - k) 0 (Nat.zero_le _) (.cons rfl (.cons rfl (.cons rfl (.cons rfl .nil)))) rfl rfl (by omega) ?_
        intro k hk
        by_cases hk1 : k < (L t).length + 80
        · have e0 : ¬ ((List.replicate ((L t).length + 80) (mrk t)).getD k 0 ≠ (t + 1).mod 256) := fun h => h (gd hk1)
          by_cases hk2 : k < (L t).length
          · have e1 : ¬ ((List.replicate (L t).length (mrk t)).getD k 0 ≠ (t + 1).mod 256) := fun h => h (gd hk2)
            refine run1 ?_
            exact rnd.n (k + 1) (by omega) (by omega) (.cons rfl (.cons rfl (.cons rfl (.cons rfl .nil)))) rfl rfl
          · refine run1 ?_
            exact rnd.n (k + 1) (by omega) (by omega) (.cons rfl (.cons rfl (.cons rfl (.cons rfl .nil)))) rfl rfl
        · refine run1 ?_
          exact rnd.n (t + 1) htj (by omega) (.cons rfl (.cons rfl (.cons rfl .nil))) rfl rfl
      · refine run1 ?_
        exact Lv.ret rfl ⟨rfl, j7⟩
end Go.Proofs.YtdffoghdbfddmaaGreatDoor
