import Derived.Test.YtdibpdpcbnijeaaGreatDoorCjzz
import Derived.Test.YtdibpdpcbnijeaaGreatDoorFkzz
import Derived.Test.YtdibpdpcbnijeaaGreatDoorCszz
import Derived.Test.YtdibpdpcbnijeaaGreatDoorCtzz
/-
  The law's calls, with their lengths told.
-/
namespace Go.Proofs.YtdibpdpcbnijeaaGreatDoor
open Go Go.Ev Go.Sy
set_option maxRecDepth 100000
variable {s s0 : St} {q r : Option Addr} {c d : Nat}
theorem ssort_E {l : List El} {E : List Ety} {n : Nat} (hE : l.map Prod.snd = E) (hn : l.length = n) (w : Wf s) (ha : At s q (cel l)) (hk : ∀ x ∈ l, BsV s x.1.1 x.2.1 ∧ BsV s x.1.2 x.2.2) (hl : n < 2 ^ 40) (hm : ∀ e ∈ E, e.1.length < 2 ^ 40 ∧ e.2.length < 2 ^ 40) :
    Cl B (.call 5 [.slice q n c]) s fun v s' => ∃ q' c' γ M, v = .slice q' (canon E).length c' ∧ Res s.nx s' q' (canon E).length c' γ M ∧ ect M = canon E ∧ Kn s s' := by
  subst hE hn
  exact ssort_ok w ha hk hl fun x hx => hm x.2 (List.mem_map_of_mem hx)
theorem rsort_E {l : List El} {E : List Ety} {n : Nat} (hE : l.map Prod.snd = E) (hn : l.length = n) (w : Wf s) (ha : At s q (cel l)) (hk : ∀ x ∈ l, BsV s x.1.1 x.2.1 ∧ BsV s x.1.2 x.2.2) (hl : n < 2 ^ 40) :
    Cl B (.call 6 [.slice q n c]) s fun v s' => ∃ q' c' γ D, v = .slice q' (canon E).length c' ∧ Gl s s' q' c' γ D ∧ D.map Prod.snd = canon E ∧ (∀ x ∈ D, x ∈ l) ∧ D.length = (canon E).length ∧ Kn s s' := by
  subst hE hn
  refine (rsort14_ok w ha hk hl).mono ?_
  rintro v s' ⟨q', c', γ, D, rfl, h1, h2, h3, h4⟩
  have hl : D.length = (canon (l.map Prod.snd)).length := by rw [← h2, List.length_map]
  exact ⟨q', c', γ, D, by rw [hl], h1, h2, h3, hl, Kp.new .refl h1.kp (Nat.le_refl _)⟩
theorem sames_E {cs ds : List Value} {E D : List Ety} {n m : Nat} (hn : E.length = n) (hm : D.length = m) (ha : At s q cs) (he : Ent s cs E) (hb : At s r ds) (hd : Ent s ds D) (hE : n < 2 ^ 60) (hD : m < 2 ^ 60) :
    Cl B (.call 7 [.slice q n c, .slice r m d]) s fun v s' => v = .bool (decide (E = D)) ∧ s' = s := by
  subst hn hm
  exact sames_ok ha he hb hd hE hD
theorem canon_length (L : List Ety) : (canon L).length ≤ L.length := rev_ind (p := fun L => (canon L).length ≤ L.length) (Nat.le_refl _) (fun L e h => by
  rw [canon_add, List.length_append]
  have : ∀ (D : List Ety), (ins D e).length ≤ D.length + 1 := fun D => by
    induction D with
    | nil => exact Nat.le_refl _
    | cons d D ih =>
      unfold ins
      split
      · simp only [List.length_cons]; omega
      · split <;> simp only [List.length_cons] <;> omega
  have := this (canon L)
  simp only [List.length_cons, List.length_nil]; omega) L
theorem canon_mem {L : List Ety} {x : Ety} (h : x ∈ canon L) : x ∈ L := (lst_key ((mem_canon L).1 h)).1
/-- A copy with marks, as the law makes it. -/
structure Cpy (s : St) (b γ n : Nat) (ks : List Value) (mk : Value) (E : List Ety) (Γ : List Nat) : Prop where
  rw : Rw s b (ks ++ [mk, .slice none 0 0]) γ
  mr : BsV s mk [109, 97, 114, 107]
  ow : OwnE s ks E Γ
  nd : (γ :: Γ).Nodup
  ln : E.length = n
theorem copy_E {l : List El} {E : List Ety} {n : Nat} (hE : l.map Prod.snd = E) (hn : l.length = n) (w : Wf s) (ha : At s q (cel l)) (hk : ∀ x ∈ l, BsV s x.1.1 x.2.1 ∧ BsV s x.1.2 x.2.2) (hl : n < 2 ^ 40) (hm : ∀ e ∈ E, e.1.length < 2 ^ 40 ∧ e.2.length < 2 ^ 40) :
    Cl B (.call 4 [.slice q n c]) s fun v s' => ∃ b γ ks Γ mk, v = .slice (some ⟨b, 0, none⟩) n (sure (n + 1)) ∧ Cpy s' b γ n ks mk E Γ ∧ Kn s s' ∧ s.nx ≤ γ ∧ (∀ g ∈ Γ, s.nx ≤ g) := by
  subst hE
  have hl' : (l.map Prod.snd).length = n := by rw [List.length_map]; exact hn
  have := copy_ok (c := c) w ha (cel_ent hk) (by omega) (fun i hi => by
    have hi' : i < l.length := by omega
    have hg : l[i]? = some l[i] := List.getElem?_eq_getElem hi'
    obtain ⟨h1, h2⟩ := key_snd hg
    rw [h1, h2]
    have := hm l[i].2 (List.mem_map_of_mem (List.getElem_mem hi'))
    omega)
  rw [hl'] at this
  refine this.mono ?_
  rintro v s' ⟨b, γ, ks, Γ, mk, h1, h2, h3, h4, h5, h6, h7, h8⟩
  exact ⟨b, γ, ks, Γ, mk, h1, ⟨h2, h3, h4, h7, hl'⟩, h5, h6, h8⟩
theorem Cpy.els {s : St} {b γ n : Nat} {ks : List Value} {mk : Value} {E : List Ety} {Γ : List Nat} (h : Cpy s b γ n ks mk E Γ) : ∃ l : List El, ks = cel l ∧ l.map Prod.snd = E ∧ l.length = n ∧ At s (some ⟨b, 0, none⟩) (cel l) ∧ ∀ x ∈ l, BsV s x.1.1 x.2.1 ∧ BsV s x.1.2 x.2.2 := by
  obtain ⟨l, e1, e2, e3⟩ := h.ow.ent.els
  refine ⟨l, e1, e2.symm, by rw [← h.ln, e2, List.length_map], ?_, e3⟩
  have hl := h.rw
  rw [e1] at hl
  have := (hl.sl (o := 0) (n := (cel l).length) (by rw [List.length_append]; omega)).at
  rwa [List.drop_zero, List.take_append_of_le_length (Nat.le_refl _), List.take_length] at this
theorem Cpy.kp {C : Nat → Prop} {s s' : St} {b γ n : Nat} {ks : List Value} {mk : Value} {E : List Ety} {Γ : List Nat} (h : Cpy s b γ n ks mk E Γ) (w : Wf s) (k : Kp C s s') (h1 : ¬ C γ) (h2 : ∀ g ∈ Γ, ¬ C g) (h3 : BsV s' mk [109, 97, 114, 107]) : Cpy s' b γ n ks mk E Γ := ⟨h.rw.kp w k h1, h3, h.ow.kp w k h2, h.nd, h.ln⟩
theorem OwnE.ltn {s : St} (w : Wf s) : ∀ {cs : List Value} {E : List Ety} {Γ : List Nat}, OwnE s cs E Γ → ∀ g ∈ Γ, g < s.nx := by
  intro cs E Γ
  induction E generalizing cs Γ with
  | nil => intro h g hg; obtain ⟨rfl, rfl⟩ := h.nil_of; simp at hg
  | cons e E ih =>
    intro h g hg
    obtain ⟨a, b, ks, g', j', Δ, rfl, rfl, h3, h4, h5⟩ := h.cons_of
    rcases List.mem_cons.1 hg with rfl | hg
    · exact h3.ltn w
    · rcases List.mem_cons.1 hg with rfl | hg
      · exact h4.ltn w
      · exact ih h5 g hg
theorem Cpy.kpN {s s' : St} {b γ n : Nat} {ks : List Value} {mk : Value} {E : List Ety} {Γ : List Nat} (h : Cpy s b γ n ks mk E Γ) (w : Wf s) (k : Kp (fun c => s.nx ≤ c) s s') : Cpy s' b γ n ks mk E Γ :=
  h.kp w k (by have := (h.rw.lt w).2; omega) (fun g hg => by have := OwnE.ltn w h.ow g hg; omega) (h.mr.kpN w k)
theorem wholes_E {b γ n : Nat} {ks ds : List Value} {mk : Value} {E : List Ety} {Γ : List Nat} (h : Cpy s b γ n ks mk E Γ) (hb : At s r ds) (hd : Ent s ds E) (hE : n < 2 ^ 60) :
    Cl B (.call 8 [.slice (some ⟨b, 0, none⟩) n (sure (n + 1)), .slice r n d]) s fun v s' => v = .bool true ∧ s' = s := by
  have hn := h.ln
  subst hn
  exact wholes_ok h.rw h.mr h.ow hb hd hE
theorem lapart_E {M : EC} {lo γ n : Nat} (hn : M.length = n) (w : Wf s) (G : Gw s q n c 2 (ecs M) γ) (F : Fc s lo (efl M)) (hne : ∀ x ∈ efl M, x.q ≠ none → q ≠ none → x.γ ≠ γ) (hl : n < 2 ^ 38) :
    Cl B (.call 10 [.slice q n c]) s fun v s' => v = .bool true ∧ Kp (fun c => (∃ x ∈ efl M, x.q ≠ none ∧ c = x.γ) ∨ (q ≠ none ∧ c = γ) ∨ s.nx ≤ c) s s' := by
  subst hn
  exact lapart_ok w G F hne hl
theorem aerr_congr {E : List Ety} {C C' : Chs} (h : C.map (fun x => (x.1.2, x.2)) = C'.map (fun x => (x.1.2, x.2))) : aerr E C = aerr E C' ∧ aout E C = aout E C' := by
  have hm : ∀ {A A' : Chs}, A.map (fun x => (x.1.2, x.2)) = A'.map (fun x => (x.1.2, x.2)) → (∃ x ∈ A, ¬ may x) → ∃ x ∈ A', ¬ may x := fun {A A'} h ⟨x, hx, hn⟩ => by
    have : (x.1.2, x.2) ∈ A'.map (fun x => (x.1.2, x.2)) := by rw [← h]; exact List.mem_map_of_mem hx
    obtain ⟨y, hy, e⟩ := List.mem_map.1 this
    injection e with e1 e2
    refine ⟨y, hy, fun hy' => hn ?_⟩
    unfold may at *
    rw [← e1, ← e2]; exact hy'
  have h1 : aerr E C = aerr E C' := by
    by_cases hR : Rgt E
    · by_cases hb : ∃ x ∈ C, ¬ may x
      · rw [(aerr2 hR hb).1, (aerr2 hR (hm h hb)).1]
      · have hb' : ¬ ∃ x ∈ C', ¬ may x := fun h' => hb (hm h.symm h')
        rw [(aerr0 hR fun x hx => Classical.not_not.1 fun hn => hb ⟨x, hx, hn⟩).1, (aerr0 hR fun x hx => Classical.not_not.1 fun hn => hb' ⟨x, hx, hn⟩).1]
    · rw [(aerr1 hR).1, (aerr1 hR).1]
  have h2 : cety C = cety C' := by
    unfold cety
    have := congrArg (List.map Prod.fst) h
    rw [List.map_map, List.map_map] at this; exact this
  exact ⟨h1, by unfold aout; rw [h1, h2]⟩
theorem rapply_E {l : List El} {E : List Ety} {n k : Nat} {C : Chs} (hE : l.map Prod.snd = E) (hn : l.length = n) (hC : C.length = k) (w : Wf s) (ha : At s q (cel l)) (hk : ∀ x ∈ l, BsV s x.1.1 x.2.1 ∧ BsV s x.1.2 x.2.2) (hc : At s r (chl C)) (hkc : ChOk s C) (hl : n + k < 2 ^ 38) :
    Cl B (.call 12 [.slice q n c, .slice r k d]) s fun v s' => ∃ q' c' D, v = .tuple ⟨[.slice q' (aout E C).length c', nI (aerr E C)]⟩ ∧ At s' q' (cel D) ∧ D.map Prod.snd = aout E C ∧ (∀ x ∈ D, BsV s x.1.1 x.2.1 ∧ BsV s x.1.2 x.2.2) ∧ (aout E C).length ≤ n + k ∧ Kn s s' := by
  subst hE hn hC
  refine (rapply_ok w ha hk hc hkc hl).mono ?_
  rintro v s' ⟨q', c', D, rfl, h1, h2, h3, h4, h5⟩
  have hl : D.length = (aout (l.map Prod.snd) C).length := by rw [← h2, List.length_map]
  exact ⟨q', c', D, by rw [hl], h1, h2, h3, by omega, h5⟩
theorem papply_E {l : List El} {E : List Ety} {n k : Nat} {C C' : Chs} (hE : l.map Prod.snd = E) (hn : l.length = n) (hC : C'.length = k) (he : C'.map (fun x => (x.1.2, x.2)) = C.map (fun x => (x.1.2, x.2))) (w : Wf s) (ha : At s q (cel l)) (hk : ∀ x ∈ l, BsV s x.1.1 x.2.1 ∧ BsV s x.1.2 x.2.2) (hc : At s r (chl C')) (hkc : ChOk s C') (hl : n + k < 2 ^ 38) (hm : ∀ e ∈ E, e.1.length < 2 ^ 40 ∧ e.2.length < 2 ^ 40) (hmc : ∀ x ∈ C', x.1.2.1.length < 2 ^ 40 ∧ x.1.2.2.length < 2 ^ 40) :
    Cl B (.call 13 [.slice q n c, .slice r k d]) s fun v s' => ∃ q' c' M, v = .tuple ⟨[.slice q' (aout E C).length c', nI (aerr E C)]⟩ ∧ At s' q' (ecs M) ∧ ect M = aout E C ∧ Fc s' s.nx (efl M) ∧ M.length = (aout E C).length ∧ Kn s s' := by
  subst hE hn hC
  obtain ⟨a1, a2⟩ := aerr_congr (E := l.map Prod.snd) he
  refine (papply_ok w ha hk hc hkc hl (fun x hx => hm x.2 (List.mem_map_of_mem hx)) hmc).mono ?_
  rintro v s' ⟨q', c', M, rfl, h1, h2, h3, h4, h5⟩
  rw [a2] at h2
  have hl : M.length = (aout (l.map Prod.snd) C).length := by rw [← h2, ect_length]
  exact ⟨q', c', M, by rw [hl, a1], h1, h2, h3, hl, h5⟩
/-- A key turned. -/
def tk1 (e : Ety) : Ety := (e.1.map (fun x => x ^^^ 1), e.2)
theorem OwnE.upd {s : St} : ∀ {cs : List Value} {E : List Ety} {Γ : List Nat}, OwnE s cs E Γ → Γ.Nodup → ∀ {i : Nat} {e : Ety}, E[i]? = some e → ∃ k g, cs[i * 2]? = some k ∧ g ∈ Γ ∧ Own s k e.1 [77, 78, 79] g ∧ ∀ {s' : St} {A : List Nat}, Wf s → Kp (fun c => c = g) s s' → Own s' k A [77, 78, 79] g → OwnE s' cs (E.set i (A, e.2)) Γ := by
  intro cs E Γ
  induction E generalizing cs Γ with
  | nil => intro h _ i e he; simp at he
  | cons x E ih =>
    intro h hn i e he
    obtain ⟨a, b, ks, g, j, Δ, rfl, rfl, h3, h4, h5⟩ := h.cons_of
    have hn1 := List.nodup_cons.1 hn
    have hn2 := List.nodup_cons.1 hn1.2
    cases i with
    | zero =>
      cases he
      refine ⟨a, g, rfl, List.mem_cons_self, h3, fun {s' A} w k o => ⟨o, h4.kp w k fun e => hn1.1 (by rw [← e]; exact List.mem_cons_self), OwnE.kp w k h5 fun y hy e => hn1.1 (by rw [← e]; exact List.mem_cons_of_mem _ hy)⟩⟩
    | succ i =>
      obtain ⟨k, g', e1, e2, e3, e4⟩ := ih h5 hn2.2 (i := i) he
      refine ⟨k, g', by rw [show (i + 1) * 2 = i * 2 + 1 + 1 by omega]; exact e1, List.mem_cons_of_mem _ (List.mem_cons_of_mem _ e2), e3, fun {s' A} w kk o => ⟨h3.kp w kk fun e => hn1.1 (by rw [e]; exact List.mem_cons_of_mem _ e2), h4.kp w kk fun e => hn2.1 (by rw [e]; exact e2), e4 w kk o⟩⟩
end Go.Proofs.YtdibpdpcbnijeaaGreatDoor
