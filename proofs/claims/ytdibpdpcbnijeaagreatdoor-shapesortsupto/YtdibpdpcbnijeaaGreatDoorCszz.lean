import Derived.Test.YtdibpdpcbnijeaaGreatDoorKmzz
import Derived.Test.YtdibpdpcbnijeaaGreatDoorWf1zz
import Derived.Test.YtdibpdpcbnijeaaGreatDoorCtzz
/-
  The evaluator over any input: a list that grows while its beginning is still held elsewhere.
-/
namespace Go.Sy
open Go Go.Ev
/-- The block b of a colour, grown out of b0 by k + 1 appends; b0 is as it was. -/
structure Anc (s : St) (b0 : Nat) (l0 : List Value) (b γ k : Nat) : Prop where
  an : ∃ pre rest, s.gr.get γ = some (b :: (pre ++ b0 :: rest)) ∧ pre.length = k ∧ b ∉ pre ∧ b ≠ b0 ∧ b ∉ rest ∧ b0 ∉ rest ∧ b0 ∉ pre
  ro : s.hp.get b0 = some (.row l0 γ)
  nz : γ ≠ 0
theorem Anc.row {s : St} {b0 : Nat} {l0 cs : List Value} {b γ k : Nat} (h : Anc s b0 l0 b γ k) (w : Wf s) : Anc (mkRow s cs) b0 l0 b γ k :=
  ⟨h.an, mkRow_kn.kp w b0 _ h.ro id, h.nz⟩
theorem Anc.sl {s : St} {b0 : Nat} {l0 : List Value} {b γ k : Nat} (h : Anc s b0 l0 b γ k) : Sl s (some ⟨b0, 0, none⟩) l0 γ := by
  have hr : Rw s b0 l0 γ := ⟨γ, h.ro, grpOf_pos h.nz⟩
  have := hr.sl (o := 0) (n := l0.length) (by omega)
  rwa [List.drop_zero, List.take_length] at this
theorem others_none {b : Nat} {l : List Nat} (h : b ∉ l) : others b l = l := by
  unfold others
  refine List.filter_eq_self.2 fun m hm => ?_
  cases e : Nat.beq m b with
  | true => exact absurd (Nat.eq_of_beq_eq_true e ▸ hm) h
  | false => rfl
theorem others_cons {b : Nat} {l : List Nat} : others b (b :: l) = others b l := by
  unfold others
  rw [List.filter_cons, Nat.beq_refl]; rfl
theorem keepL_pre {pre rest : List Nat} {b0 : Nat} (h : pre.length < 100) : ∃ rest', keepL (pre ++ b0 :: rest) = pre ++ b0 :: rest' ∧ ∀ m ∈ rest', m ∈ rest := by
  have e1 : (pre ++ b0 :: rest).take 100 = pre ++ b0 :: rest.take (99 - pre.length) := by
    rw [List.take_append, List.take_of_length_le (by omega), show 100 - pre.length = (99 - pre.length) + 1 by omega]; rfl
  have e2 : (pre ++ b0 :: rest).drop 100 = rest.drop (99 - pre.length) := by
    rw [List.drop_append, List.drop_eq_nil_of_le (by omega), List.nil_append, show 100 - pre.length = (99 - pre.length) + 1 by omega]; rfl
  refine ⟨rest.take (99 - pre.length) ++ (rest.drop (99 - pre.length)).drop ((pre ++ b0 :: rest).length - 103), ?_, fun m hm => ?_⟩
  · unfold keepL; rw [e1, e2, List.append_assoc]; rfl
  · rcases List.mem_append.1 hm with h | h
    · exact List.mem_of_mem_take h
    · exact List.mem_of_mem_drop (List.mem_of_mem_drop h)
theorem killL_pre {pre rest : List Nat} {b0 : Nat} (h : pre.length < 100) (h0 : b0 ∉ rest) : b0 ∉ killL (pre ++ b0 :: rest) := fun hm => by
  have h1 := List.mem_of_mem_take hm
  rw [List.drop_append, List.drop_eq_nil_of_le (by omega), List.nil_append, show 100 - pre.length = (99 - pre.length) + 1 by omega] at h1
  exact h0 (List.mem_of_mem_drop (show b0 ∈ rest.drop (99 - pre.length) from h1))
/-- The first append behind an end whose room is not known. -/
theorem anc0 {s : St} (w : Wf s) {b0 g need es : Nat} {l0 new : List Value} (hb : s.hp.get b0 = some (.row l0 g)) (hn : need < 18446744073709551616) :
    ∃ s', extend s b0 g need es l0.length l0 new = .ok (.val (.slice (some ⟨s.nx, 0, none⟩) need (least need es))) s' ∧ s'.hp.get s.nx = some (.row (l0 ++ new) (grpOf g b0)) ∧ s'.nx = s.nx + 1 ∧ Kp (fun c => c = grpOf g b0) s s' ∧ Anc s' b0 l0 s.nx (grpOf g b0) 0 := by
  obtain ⟨s', h1, h2, h3, h4, h5, h6, h7⟩ := extend_ok (need := need) (es := es) (new := new) (rest := []) w (by rw [List.append_nil]; exact hb) hn
  refine ⟨s', h1, h2, h3, h4, ⟨[], keepL (others b0 (membersOf (s.gr.get (grpOf g b0)))), h7, rfl, by simp, ?_, fun h => ?_, fun h => ?_, by simp⟩, h5, ?_⟩
  · have := (w.lt b0 _ hb).1; omega
  · have := (others_mem.1 (keepL_sub h)).1
    cases hq : s.gr.get (grpOf g b0) with
    | none => rw [hq] at this; simp [membersOf] at this
    | some ms => rw [hq] at this; exact absurd (w.mlt _ ms _ hq this) (Nat.lt_irrefl _)
  · exact (others_mem.1 (keepL_sub h)).2 rfl
  · by_cases e : g = 0
    · subst e; have := w.pos b0 _ _ hb; show grpOf 0 b0 ≠ 0; rw [grpOf_zero]; omega
    · rw [grpOf_pos e]; exact e
/-- The next one. -/
theorem anc1 {s : St} (w : Wf s) {b0 b γ k need es : Nat} {l0 cs new : List Value} (ha : Anc s b0 l0 b γ k) (hb : s.hp.get b = some (.row cs γ)) (hl : l0.length ≤ cs.length) (hk : k < 98) (hn : need < 18446744073709551616) :
    ∃ s', extend s b γ need es cs.length cs new = .ok (.val (.slice (some ⟨s.nx, 0, none⟩) need (least need es))) s' ∧ s'.hp.get s.nx = some (.row (cs ++ new) γ) ∧ s'.nx = s.nx + 1 ∧ Kp (fun c => c = γ) s s' ∧ Anc s' b0 l0 s.nx γ (k + 1) := by
  obtain ⟨pre, rest, a1, a2, a3, a4, a5, a6, a7⟩ := ha.an
  have hG : grpOf γ b = γ := grpOf_pos ha.nz
  obtain ⟨s', h1, h2, h3, h4, h5, h6, h7⟩ := extend_ok (need := need) (es := es) (new := new) (rest := []) w (by rw [List.append_nil]; exact hb) hn
  rw [hG] at h2 h4 h5 h6 h7
  have ho : others b (membersOf (s.gr.get γ)) = pre ++ b0 :: rest := by
    rw [a1]; show others b (b :: (pre ++ b0 :: rest)) = _
    rw [others_cons, others_none]
    intro h
    rcases List.mem_append.1 h with h | h
    · exact a3 h
    · rcases List.mem_cons.1 h with h | h
      · exact a4 h
      · exact a5 h
  rw [ho] at h6 h7
  obtain ⟨rest', r1, r2⟩ := keepL_pre (pre := pre) (rest := rest) (b0 := b0) (by omega)
  rw [r1] at h7
  have hlt : ∀ m, m ∈ b :: (pre ++ b0 :: rest) → m < s.nx := fun m hm => w.mlt _ _ m a1 hm
  refine ⟨s', h1, h2, h3, h4, ⟨b :: pre, rest', h7, by rw [List.length_cons, a2], fun h => ?_, fun h => ?_, fun h => ?_, fun h => a6 (r2 _ h), fun h => ?_⟩, ?_, ha.nz⟩
  · have := hlt s.nx (by rcases List.mem_cons.1 h with h | h
                         · rw [← h]; exact List.mem_cons_self
                         · exact List.mem_cons_of_mem _ (List.mem_append_left _ h))
    omega
  · have := hlt b0 (by simp); omega
  · have := hlt s.nx (by simp [r2 _ h]); omega
  · rcases List.mem_cons.1 h with h | h
    · exact a4 h.symm
    · exact a7 h
  · exact h6 b0 (fun e => a4 e.symm) (killL_pre (by omega) a6) l0 γ ha.ro hl
end Go.Sy
/-
  cairnlaw14.Copy.
-/
namespace Go.Proofs.YtdibpdpcbnijeaaGreatDoor
open Go Go.Ev Go.Sy
set_option maxRecDepth 100000
variable {s : St} {q r : Option Addr} {c d : Nat} {M N : List Nat}
theorem roomy_own (w : Wf s) (ha : Bs s q M) (hA : M.length < 2 ^ 47 - 1024) :
    Cl B (.call 11 [.slice q M.length c]) s fun v s' => ∃ γ, Own s' v M [77, 78, 79] γ ∧ Kn s s' ∧ s.nx ≤ γ :=
  (roomy_ok w ha hA).mono fun v s' ⟨b, c', γ, h1, h2, h3, h4, h5⟩ => ⟨γ, ⟨⟨b, c', h1, h2, (cap_ok h3 (by omega)).1, (cap_ok h3 (by omega)).2⟩, by omega⟩, h4, h5⟩
/-- Entries, each list in a block of its own with marks behind it. -/
def OwnE (s : St) : List Value → List Ety → List Nat → Prop
  | [], [], [] => True
  | k :: v :: cs, e :: E, g :: h :: Γ => Own s k e.1 [77, 78, 79] g ∧ Own s v e.2 [77, 78, 79] h ∧ OwnE s cs E Γ
  | _, _, _ => False
theorem OwnE.nil_of {s : St} {cs : List Value} {Γ : List Nat} (h : OwnE s cs [] Γ) : cs = [] ∧ Γ = [] := by
  cases cs with
  | nil => cases Γ with
    | nil => exact ⟨rfl, rfl⟩
    | cons => exact h.elim
  | cons a cs => cases cs <;> cases Γ <;> exact h.elim
theorem OwnE.cons_of {s : St} {cs : List Value} {e : Ety} {E : List Ety} {Γ : List Nat} (h : OwnE s cs (e :: E) Γ) : ∃ k v ks g j Δ, cs = k :: v :: ks ∧ Γ = g :: j :: Δ ∧ Own s k e.1 [77, 78, 79] g ∧ Own s v e.2 [77, 78, 79] j ∧ OwnE s ks E Δ := by
  cases cs with
  | nil => exact h.elim
  | cons k cs => cases cs with
    | nil => exact h.elim
    | cons v cs => cases Γ with
      | nil => exact h.elim
      | cons g Γ => cases Γ with
        | nil => exact h.elim
        | cons j Γ => exact ⟨k, v, cs, g, j, Γ, rfl, rfl, h.1, h.2.1, h.2.2⟩
theorem OwnE.kp {C : Nat → Prop} {s s' : St} (w : Wf s) (k : Kp C s s') : ∀ {cs : List Value} {E : List Ety} {Γ : List Nat}, OwnE s cs E Γ → (∀ g ∈ Γ, ¬ C g) → OwnE s' cs E Γ := by
  intro cs E Γ
  induction E generalizing cs Γ with
  | nil => intro h _; obtain ⟨rfl, rfl⟩ := h.nil_of; trivial
  | cons e E ih =>
    intro h hc
    obtain ⟨a, b, ks, g, j, Δ, rfl, rfl, h1, h2, h3⟩ := h.cons_of
    exact ⟨h1.kp w k (hc g (by simp)), h2.kp w k (hc j (by simp)), ih h3 fun x hx => hc x (by simp [hx])⟩
theorem OwnE.app {s : St} {k v : Value} {e : Ety} {g j : Nat} : ∀ {cs : List Value} {E : List Ety} {Γ : List Nat}, OwnE s cs E Γ → Own s k e.1 [77, 78, 79] g → Own s v e.2 [77, 78, 79] j → OwnE s (cs ++ [k, v]) (E ++ [e]) (Γ ++ [g, j]) := by
  intro cs E Γ
  induction E generalizing cs Γ with
  | nil => intro h h1 h2; obtain ⟨rfl, rfl⟩ := h.nil_of; exact ⟨h1, h2, trivial⟩
  | cons e' E ih =>
    intro h h1 h2
    obtain ⟨a, b, ks, g', j', Δ, rfl, rfl, h3, h4, h5⟩ := h.cons_of
    exact ⟨h3, h4, ih h5 h1 h2⟩
theorem OwnE.ent {s : St} : ∀ {cs : List Value} {E : List Ety} {Γ : List Nat}, OwnE s cs E Γ → Ent s cs E := by
  intro cs E Γ
  induction E generalizing cs Γ with
  | nil => intro h; obtain ⟨rfl, rfl⟩ := h.nil_of; trivial
  | cons e' E ih =>
    intro h
    obtain ⟨a, b, ks, g', j', Δ, rfl, rfl, h3, h4, h5⟩ := h.cons_of
    exact ⟨h3.bs, h4.bs, ih h5⟩
def zc (m : Nat) : List Value := (List.replicate m [Value.slice none 0 0, Value.slice none 0 0]).flatten
theorem zc_length (m : Nat) : (zc m).length = m * 2 := by unfold zc; rw [List.length_flatten]; simp
theorem zc_succ (m : Nat) : zc (m + 1) = Value.slice none 0 0 :: Value.slice none 0 0 :: zc m := by unfold zc; rw [List.replicate_succ]; rfl
theorem zc_lov {cs : List Value} {m n : Nat} {k v : Value} (hn : cs.length = n) : lov (cs ++ zc (m + 1)) n [k, v] = (cs ++ [k, v]) ++ zc m := by
  subst hn
  unfold lov
  rw [List.take_append_of_le_length (Nat.le_refl _), List.take_length, List.append_assoc, zc_succ, List.drop_append, List.drop_eq_nil_of_le (by simp), List.nil_append]
  congr 1
  show k :: v :: List.drop (cs.length + 2 - cs.length) _ = _
  rw [Nat.add_sub_cancel_left]; rfl
theorem copy_ok {cs : List Value} {E : List Ety} (w : Wf s) (ha : At s q cs) (he : Ent s cs E) (hE : E.length < 2 ^ 40) (hm : ∀ i, i < E.length → (key E i).length < 2 ^ 47 - 1024 ∧ (val E i).length < 2 ^ 47 - 1024) :
    Cl B (.call 4 [.slice q E.length c]) s fun v s' => ∃ b γ ks Γ mk, v = .slice (some ⟨b, 0, none⟩) E.length (sure (E.length + 1)) ∧ Rw s' b (ks ++ [mk, .slice none 0 0]) γ ∧ BsV s' mk [109, 97, 114, 107] ∧ OwnE s' ks E Γ ∧ Kn s s' ∧ s.nx ≤ γ ∧ (γ :: Γ).Nodup ∧ (∀ g ∈ Γ, s.nx ≤ g) := by
  refine Cl.enter Tryz.f4 fn4 rfl rfl rfl ?_
  refine run1 ?_
  refine Wo.val rfl (Xv.make rfl rfl rfl rfl rfl (Nat.zero_le _) rfl (by omega) (by omega)) rfl ?_
  refine run1 ?_
  refine W.loop (α := Nat × St × List Value × List Nat) (fun p => [(0, .slice q E.length c), (3, .slice (some ⟨s.nx, 0, none⟩) p.1 (sure (E.length + 1))), (4, nI p.1)]) (fun _ => []) (fun p => p.2.1)
    (fun p => p.1 ≤ E.length ∧ Kn s p.2.1 ∧ Rw p.2.1 s.nx (p.2.2.1 ++ zc (E.length + 1 - p.1)) s.nx ∧ p.2.2.1.length = p.1 * 2 ∧ OwnE p.2.1 p.2.2.1 (E.take p.1) p.2.2.2 ∧ (s.nx :: p.2.2.2).Nodup ∧ (∀ g ∈ p.2.2.2, s.nx < g) ∧ (∀ g ∈ p.2.2.2, g < p.2.1.nx))
    (fun p => E.length - p.1) (0, mkRow s (zc (E.length + 1)), [], []) ⟨Nat.zero_le _, mkRow_kn, mkRow_rw, rfl, trivial, by simp, by simp, by simp⟩ (.cons rfl (.cons rfl (.cons rfl .nil))) rfl rfl (by show E.length - 0 < _; omega) ?_
  rintro ⟨i, s1, ks, Γ⟩ ⟨k1, k2, k3, k4, k5, k6, k7, k10⟩
  dsimp only at k1 k2 k3 k4 k5 k6 k7 k10 ⊢
  have w1 := k2.wf w
  by_cases hi : i < E.length
  · obtain ⟨g1, q1, c1, q2, c2, l1, l2, b1, b2, m1, m2⟩ := he.ld ha hi
    obtain ⟨n1, n2⟩ := hm i hi
    have l1a := ldq_kn l1 w k2
    have l2a := ldq_kn l2 w k2
    refine run1 ?_
    refine W.dr [(1, .none, 0), (2, .none, 0), (3, .none, 6), (4, .none, 14), (5, .reads, 30), (6, .acts, 62), (7, .none, 0), (8, .none, 0), (9, .none, 384), (10, .none, 896), (11, .reads, 1920), (12, .acts, 4094), (0, .none, 0), (13, .none, 8190), (14, .makes, 16382), (15, .acts, 32767), (16, .none, 65535)] (by kernel_rfl) rfl ?_
    refine run1 ?_
    refine Wd.call rfl (Xc.call ok11 rfl) rfl ((roomy_own w1 (b1.kn w k2) n1).mono ?_)
    rintro v1 s2 ⟨γ1, o1, k8, g3⟩
    refine ⟨k8.le, ?_⟩
    have l2b := ldq_kn l2a w1 k8
    have w2 := k8.wf w1
    refine run1 ?_
    refine Wd.call rfl (Xc.call ok11 rfl) rfl ((roomy_own w2 ((b2.kn w k2).kn w1 k8) n2).mono ?_)
    rintro v2 s3 ⟨γ2, o2, k9, g4⟩
    refine ⟨k9.le, ?_⟩
    have w3 := k9.wf w2
    have o1' := o1.kp w2 k9 id
    obtain ⟨x1, y1, e1, _⟩ := o1'.ex
    obtain ⟨x2, y2, e2, _⟩ := o2.ex
    subst e1 e2
    refine run1 ?_
    have hks : (ks ++ zc (E.length + 1 - i)).length = i * 2 + (E.length + 1 - i) * 2 := by rw [List.length_append, k4, zc_length]
    have k8' : Kn s1 s3 := k8.trans k9
    have kk := (k3.kp w1 k8' id).kp w3 (mkRow_kn (cs := [.slice (some ⟨x1, 0, none⟩) (key E i).length y1, .slice (some ⟨x2, 0, none⟩) (val E i).length y2])) id
    refine Wd.appc rfl rfl rfl rfl rfl rfl rfl rfl kk rfl (cells_at mkRow_sl.at rfl (by decide)) rfl (by intro v hv; simp only [List.mem_cons, List.not_mem_nil, or_false] at hv; rcases hv with rfl | rfl <;> rfl) rfl (by omega) (by omega) (by omega) (by omega) ?_
    intro s4 j1 j2 j3
    have hz : E.length + 1 - i = (E.length + 1 - (i + 1)) + 1 := by omega
    rw [hz, zc_lov k4] at j1
    refine run1 ?_
    have kn3 : Kn s s3 := k2.trans k8'
    have c1' : γ1 ≠ s.nx := by have := k2.le; have := (k3.lt w1).2; omega
    have c2' : γ2 ≠ s.nx := by have := kn3.le; have := (k3.lt w1).2; have := k8.le; omega
    have w4 : Wf (mkRow s3 [.slice (some ⟨x1, 0, none⟩) (key E i).length y1, .slice (some ⟨x2, 0, none⟩) (val E i).length y2]) := mkRow_wf w3
    refine rnd.n (i + 1, s4, ks ++ [.slice (some ⟨x1, 0, none⟩) (key E i).length y1, .slice (some ⟨x2, 0, none⟩) (val E i).length y2], Γ ++ [γ1, γ2]) ⟨hi, ?_, j1, ?_, ?_, ?_, ?_, ?_⟩ (by show E.length - (i + 1) < E.length - i; omega) (.cons rfl (.cons rfl (.cons rfl .nil))) rfl rfl
    · exact Kn.app (kn3.trans mkRow_kn) j3 (Nat.le_refl _)
    · rw [List.length_append, k4]; show i * 2 + 2 = _; omega
    · rw [List.take_succ_eq_append_getElem hi]
      have hE' : E[i] = (key E i, val E i) := by unfold key val; rw [List.getD_eq_getElem?_getD, List.getElem?_eq_getElem hi]; rfl
      rw [hE']
      have kA : Kn s1 (mkRow s3 [.slice (some ⟨x1, 0, none⟩) (key E i).length y1, .slice (some ⟨x2, 0, none⟩) (val E i).length y2]) := k8'.trans mkRow_kn
      exact OwnE.app ((k5.kp w1 kA fun _ _ => id).kp w4 j3 fun g hg => by have := k7 g hg; omega) ((o1'.kp w3 mkRow_kn id).kp w4 j3 c1') ((o2.kp w3 mkRow_kn id).kp w4 j3 c2')
    · have a1 := (k3.lt w1).2
      have a2 := k2.le
      have a3 := k8.le
      have h12 : γ1 ≠ γ2 := by have := o1.ltn w2; omega
      have hn := List.nodup_cons.1 k6
      refine List.nodup_cons.2 ⟨fun h => ?_, List.nodup_append.2 ⟨hn.2, ?_, fun g hg j hj => ?_⟩⟩
      · rcases List.mem_append.1 h with h | h
        · exact hn.1 h
        · simp only [List.mem_cons, List.not_mem_nil, or_false] at h; rcases h with h | h <;> omega
      · simp [h12]
      · have hg' : g < s1.nx := k10 g hg
        simp only [List.mem_cons, List.not_mem_nil, or_false] at hj; rcases hj with rfl | rfl <;> omega
    · intro g hg
      rcases List.mem_append.1 hg with hg | hg
      · exact k7 g hg
      · simp only [List.mem_cons, List.not_mem_nil, or_false] at hg
        have := k2.le; have := (k3.lt w1).2; have := k8.le
        rcases hg with rfl | rfl <;> omega
    · intro g hg
      have e4 : s4.nx = s3.nx + 1 := j2
      have a3 := k8.le; have a4 := k9.le
      rcases List.mem_append.1 hg with hg | hg
      · have := k10 g hg; dsimp only; omega
      · simp only [List.mem_cons, List.not_mem_nil, or_false] at hg
        have b1 := o1.ltn w2; have b2 := o2.ltn w3
        dsimp only
        rcases hg with rfl | rfl <;> omega
  · refine run1 ?_
    have hie : i = E.length := by omega
    subst hie
    refine Wo.val rfl (Xv.asB rfl rfl rfl mkRow_rw) rfl ?_
    refine run1 ?_
    have wA : Wf (mkRow s1 [nB 109, nB 97, nB 114, nB 107]) := mkRow_wf w1
    have kB : Kn s1 (mkRow (mkRow s1 [nB 109, nB 97, nB 114, nB 107]) [.slice (some ⟨s1.nx, 0, none⟩) 4 (sure 4), .slice none 0 0]) := mkRow_kn.trans mkRow_kn
    have kk := k3.kp w1 kB id
    have hks : (ks ++ zc (E.length + 1 - E.length)).length = E.length * 2 + 2 := by rw [List.length_append, k4, zc_length]; omega
    refine Wo.appc rfl rfl rfl rfl rfl rfl rfl rfl kk rfl (cells_at mkRow_sl.at rfl (by decide)) rfl (by intro v hv; simp only [List.mem_cons, List.not_mem_nil, or_false] at hv; rcases hv with rfl | rfl <;> rfl) rfl (by omega) (by omega) (by omega) (by omega) ?_
    intro s4 j1 j2 j3
    rw [show E.length + 1 - E.length = 0 + 1 by omega, zc_lov k4] at j1
    refine run1 ?_
    refine Wo.val rfl (Xv.sl0 rfl rfl rfl rfl (by rw [cap_sure.1]; omega) fun _ => by rw [cap_sure.1]) rfl ?_
    refine run1 ?_
    have wB := kB.wf w1
    refine Lv.ret rfl ⟨s.nx, s.nx, ks, Γ, .slice (some ⟨s1.nx, 0, none⟩) 4 (sure 4), rfl, ?_, ?_, ?_, Kn.app (k2.trans kB) j3 (Nat.le_refl _), Nat.le_refl _, k6, fun g hg => Nat.le_of_lt (k7 g hg)⟩
    · rw [show zc 0 = [] from rfl, List.append_nil] at j1; exact j1
    · refine ⟨some ⟨s1.nx, 0, none⟩, sure 4, rfl, ?_, by decide⟩
      have hm1 : Sl (mkRow s1 ([109, 97, 114, 107].map nB)) (some ⟨s1.nx, 0, none⟩) ([109, 97, 114, 107].map nB) s1.nx := mkRow_sl
      have hm2 := (hm1.kp wA (mkRow_kn (cs := [.slice (some ⟨s1.nx, 0, none⟩) 4 (sure 4), .slice none 0 0])) id).kp wB j3 (by have := (k3.lt w1).2; omega)
      exact hm2.at
    · rw [List.take_of_length_le (Nat.le_refl _)] at k5
      exact (k5.kp w1 kB fun _ _ => id).kp wB j3 fun g hg => by have := k7 g hg; omega
end Go.Proofs.YtdibpdpcbnijeaaGreatDoor
/-
  cairnlaw01.Whole.
-/
namespace Go.Proofs.YtdibpdpcbnijeaaGreatDoor
open Go Go.Ev Go.Sy
set_option maxRecDepth 100000
variable {s : St} {q r : Option Addr} {c d : Nat} {M N : List Nat}
/-- Bytes and three behind them. -/
theorem whole_ok {b o : Nat} {R X : List Nat} (ha : Bs s (some ⟨b, o, none⟩) (R ++ X)) (hX : X.length = 3) (hc : capOf c = R.length + 3) (hs : capSure c = true → c = sure (capOf c)) (hb : Bs s r N) (hR : R.length < 2 ^ 60) (hN : N.length < 2 ^ 60) :
    Cl B (.call 14 [.slice (some ⟨b, o, none⟩) R.length c, .slice r N.length d]) s fun v s' => v = .bool (decide (R = N ∧ X = [77, 78, 79])) ∧ s' = s := by
  refine Cl.enter Tryz.f14 fn14 rfl rfl rfl ?_
  by_cases h1 : R.length ≠ N.length
  · refine run1 ?_
    exact Lv.ret rfl ⟨congrArg Value.bool (decide_eq_false fun h => h1 (congrArg _ h.1)).symm, rfl⟩
  · refine run1 ?_
    refine Wo.call (gT' rfl h1) (Xc.call ok21 rfl) rfl ((same_ok ha.left hb hR hN).mono ?_)
    rintro v s' ⟨rfl, rfl⟩
    by_cases h2 : R = N
    · have h3 : N.length = R.length := by rw [h2]
      have x0 : (R ++ X).length = R.length + 3 := by rw [List.length_append, hX]
      have gd : ∀ i, (R ++ X).getD (N.length + i) 0 = X.getD i 0 := fun i => by
        rw [h3, List.getD_eq_getElem?_getD, List.getElem?_append_right (by omega), Nat.add_sub_cancel_left, List.getD_eq_getElem?_getD]
      have hX3 : X = [77, 78, 79] ↔ X.getD 0 0 = 77 ∧ X.getD 1 0 = 78 ∧ X.getD 2 0 = 79 := by
        obtain ⟨a, X, rfl⟩ := List.exists_cons_of_length_eq_add_one (show X.length = 2 + 1 from hX)
        obtain ⟨b', X, rfl⟩ := List.exists_cons_of_length_eq_add_one (show X.length = 1 + 1 by simpa using hX)
        obtain ⟨e, X, rfl⟩ := List.exists_cons_of_length_eq_add_one (show X.length = 0 + 1 by simpa using hX)
        obtain rfl : X = [] := List.eq_nil_of_length_eq_zero (by simpa using hX)
        simp
      refine run1 ?_
      refine Wo.val rfl (Xv.sl0 rfl rfl rfl rfl (by omega) hs) rfl ?_
      have e0 : (R ++ X).getD N.length 0 = X.getD 0 0 := gd 0
      by_cases k0 : (R ++ X).getD N.length 0 = 77
      · by_cases k1 : (R ++ X).getD (N.length + 1) 0 = 78
        · refine run1 ?_
          refine Lv.ret rfl ⟨congrArg Value.bool (decide_eq_decide.2 ?_), rfl⟩
          rw [hX3, ← gd 2, ← gd 1, ← e0]
          exact ⟨fun h => ⟨h2, k0, k1, h⟩, fun h => h.2.2.2⟩
        · refine run1 ?_
          exact Lv.ret rfl ⟨congrArg Value.bool (decide_eq_false fun h => k1 (by rw [gd 1]; exact (hX3.1 h.2).2.1)).symm, rfl⟩
      · refine run1 ?_
        exact Lv.ret rfl ⟨congrArg Value.bool (decide_eq_false fun h => k0 (by rw [e0]; exact (hX3.1 h.2).1)).symm, rfl⟩
    · refine run1 ?_
      exact Lv.ret rfl ⟨congrArg Value.bool (decide_eq_false fun h => h2 h.1).symm, rfl⟩
end Go.Proofs.YtdibpdpcbnijeaaGreatDoor
/-
  cairnref14.SameEntries.
-/
namespace Go.Proofs.YtdibpdpcbnijeaaGreatDoor
open Go Go.Ev Go.Sy
set_option maxRecDepth 100000
variable {s : St} {q r : Option Addr} {c d : Nat} {M N : List Nat}
theorem sames_ok {cs ds : List Value} {E D : List Ety} (ha : At s q cs) (he : Ent s cs E) (hb : At s r ds) (hd : Ent s ds D) (hE : E.length < 2 ^ 60) (_hD : D.length < 2 ^ 60) :
    Cl B (.call 7 [.slice q E.length c, .slice r D.length d]) s fun v s' => v = .bool (decide (E = D)) ∧ s' = s := by
  refine Cl.enter Tryz.f7 fn7 rfl rfl rfl ?_
  by_cases h1 : E.length ≠ D.length
  · refine run1 ?_
    exact Lv.ret rfl ⟨congrArg Value.bool (decide_eq_false fun h => h1 (congrArg _ h)).symm, rfl⟩
  refine run1 ?_
  refine W.loop (α := Nat) (fun i => [(0, .slice q E.length c), (1, .slice r D.length d), (5, nI i)]) (fun _ => []) (fun _ => s)
    (fun i => i ≤ E.length ∧ ∀ j, j < i → key E j = key D j ∧ val E j = val D j) (fun i => E.length - i) 0 ⟨Nat.zero_le _, fun j hj => by omega⟩ (.cons rfl (.cons rfl (.cons rfl .nil))) rfl rfl (by omega) ?_
  intro i ⟨k1, k2⟩
  by_cases hi : i < E.length
  · refine run1 ?_
    obtain ⟨g1, q1, c1, q2, c2, l1, l2, b1, b2, m1, m2⟩ := he.ld ha hi
    obtain ⟨g2, q3, c3, q4, c4, l3, l4, b3, b4, m3, m4⟩ := hd.ld hb (show i < D.length by omega)
    refine W.dr [(0, .none, 0), (1, .none, 0), (2, .none, 3), (3, .none, 7), (4, .reads, 15), (5, .none, 0), (6, .none, 0), (7, .none, 96), (8, .none, 224), (9, .reads, 480), (10, .acts, 1023), (11, .none, 2047), (12, .none, 4095), (13, .none, 8191), (14, .none, 8191), (15, .none, 32767), (16, .none, 65535), (17, .reads, 131071), (18, .none, 8191), (19, .none, 8191), (20, .none, 794623), (21, .none, 1843199), (22, .reads, 3940351), (23, .acts, 8388607), (24, .none, 16777215), (25, .none, 33554431)] (by kernel_rfl) rfl ?_
    refine run1 ?_
    refine Wd.call rfl (Xc.call ok21 rfl) rfl ((same_ok b1 b3 m1 m3).mono ?_)
    rintro v s' ⟨rfl, rfl⟩
    refine ⟨Nat.le_refl _, ?_⟩
    by_cases e1 : key E i = key D i
    · refine run1 ?_
      refine Wd.call rfl (Xc.call ok21 rfl) rfl ((same_ok b2 b4 m2 m4).mono ?_)
      rintro v s' ⟨rfl, rfl⟩
      refine ⟨Nat.le_refl _, ?_⟩
      by_cases e2 : val E i = val D i
      · refine run1 ?_
        refine rnd.n (i + 1) ⟨by omega, fun j hj => ?_⟩ (by omega) (.cons rfl (.cons rfl (.cons rfl .nil))) rfl rfl
        by_cases hj' : j = i
        · rw [hj']; exact ⟨e1, e2⟩
        · exact k2 j (by omega)
      · refine run1 ?_
        exact Lv.ret rfl ⟨congrArg Value.bool (decide_eq_false fun h => e2 (by rw [h])).symm, rfl⟩
    · refine run1 ?_
      exact Lv.ret rfl ⟨congrArg Value.bool (decide_eq_false fun h => e1 (by rw [h])).symm, rfl⟩
  · refine run1 ?_
    refine Lv.ret rfl ⟨congrArg Value.bool (decide_eq_true ?_).symm, rfl⟩
    exact ety_ext (Classical.not_not.1 h1) fun j hj => k2 j (by omega)
end Go.Proofs.YtdibpdpcbnijeaaGreatDoor
