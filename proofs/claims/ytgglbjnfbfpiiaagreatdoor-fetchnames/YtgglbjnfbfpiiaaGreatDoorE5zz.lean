import Derived.Test.YtgglbjnfbfpiiaaGreatDoorE4zz
/-
  The evaluator: a list that grows behind its end.
-/
namespace Go.Ev
open Go
/-- Some blocks are forgotten. -/
structure Kil (ks : List Nat) (s s' : St) : Prop where
  nx : s'.nx = s.nx
  gr : s'.gr = s.gr
  back : ∀ m o', s'.hp.get m = some o' → (o' = .dead ∧ ∃ o, s.hp.get m = some o) ∨ (s.hp.get m = some o' ∧ m ∉ ks)
  keep : ∀ m, m ∉ ks → s'.hp.get m = s.hp.get m
theorem kill_spec : ∀ (ks : List Nat) (s s' : St), (∀ m o, s.hp.get m = some o → m < m + 1) → kill ks s = some s' → Kil ks s s' := by
  intro ks
  induction ks with
  | nil => intro s s' _ h; cases h; exact ⟨rfl, rfl, fun m o h => .inr ⟨h, by simp⟩, fun _ _ => rfl⟩
  | cons k ks ih =>
    intro s s' hlt h
    obtain ⟨hp, nx, gr⟩ := s
    have h' : (match hp.get k with
      | none => kill ks (.mk hp nx gr)
      | some _ => match setO hp nx gr k .dead with
        | some s => kill ks s
        | none => none) = some s' := h
    split at h'
    · rename_i e
      have c := ih _ _ hlt h'
      refine ⟨c.nx, c.gr, fun m o' hm => ?_, fun m hm => c.keep m (fun h => hm (List.mem_cons_of_mem _ h))⟩
      rcases c.back m o' hm with h1 | ⟨h1, h2⟩
      · exact .inl h1
      · refine .inr ⟨h1, fun hk => ?_⟩
        rcases List.mem_cons.1 hk with rfl | hk
        · have h1' : hp.get m = some o' := h1
          rw [e] at h1'; cases h1'
        · exact h2 hk
    · rename_i o e
      split at h'
      case h_2 => cases h'
      rename_i s1 he1
      have e1 := setO_some he1
      subst e1
      have hk := hlt k o e
      have gets : ∀ m, (hp.set .dead k).get m = if m = k then some .dead else hp.get m := fun m => Tr.get_set _ _ _ (by omega) m
      have c := ih _ _ (fun m o2 hm => by
        rw [show (St.mk (hp.set .dead k) nx gr).hp = hp.set .dead k from rfl, gets] at hm
        split at hm
        · rename_i e2; subst e2; exact hk
        · exact hlt m o2 hm) h'
      refine ⟨c.nx, c.gr, fun m o' hm => ?_, fun m hm => by
        rw [c.keep m (fun h => hm (List.mem_cons_of_mem _ h))]
        show (hp.set .dead k).get m = hp.get m
        rw [gets, if_neg (fun e2 => hm (by rw [e2]; exact List.mem_cons_self))]⟩
      rcases c.back m o' hm with ⟨h1, o2, h2⟩ | ⟨h1, h2⟩
      · rw [show (St.mk (hp.set .dead k) nx gr).hp = hp.set .dead k from rfl, gets] at h2
        split at h2
        · rename_i e2; subst e2; exact .inl ⟨h1, o, e⟩
        · exact .inl ⟨h1, o2, h2⟩
      · rw [show (St.mk (hp.set .dead k) nx gr).hp = hp.set .dead k from rfl, gets] at h1
        split at h1
        · rename_i e2; subst e2; cases h1; exact .inl ⟨rfl, o, e⟩
        · rename_i e2
          refine .inr ⟨h1, fun hk2 => ?_⟩
          rcases List.mem_cons.1 hk2 with rfl | hk2
          · exact e2 rfl
          · exact h2 hk2
theorem setG_some {s s' : St} {g : Nat} {ms : List Nat} (h : setG s g ms = some s') : s' = .mk s.hp s.nx (s.gr.set ms g) := by
  obtain ⟨hp, nx, gr⟩ := s
  have h' : Tr.casesOn (motive := fun _ => Option St) (gr.set ms g) none (fun v a b c d => some (.mk hp nx (.node v a b c d))) = some s' := h
  cases e : gr.set ms g with
  | nil => rw [e] at h'; cases h'
  | node v a b c d => rw [e] at h'; cases h'; show St.mk hp nx _ = St.mk hp nx (gr.set ms g); rw [e]
/-- The state behind a growth, block by block. -/
structure Grew (s : St) (b g n : Nat) (ms : List Nat) (new : Ob) (s' : St) : Prop where
  nx : s'.nx = s.nx + 1
  lt : s.nx < s.nx + 1
  back : ∀ m o', s'.hp.get m = some o' → (m = s.nx ∧ o' = new) ∨ m ≠ s.nx ∧ ((o' = .dead ∧ ((∃ o, s.hp.get m = some o) ∨ m = b)) ∨ (m = b ∧ ∃ old, o' = .row old g) ∨
    (m ≠ b ∧ m ∉ killL (others b ms) ∧ ∃ o, s.hp.get m = some o ∧ (o' = o ∨ ∃ cs1 g1, o = .row cs1 g1 ∧ o' = .row (cs1.take n) g1)))
  cut : ∀ m, m ∈ ms → m ≠ b → m ≠ s.nx → ∀ cs g1, s'.hp.get m = some (.row cs g1) → cs.length ≤ n
  gr : ∀ k, s'.gr.get k = if k = g then some (s.nx :: b :: keepL (others b ms)) else s.gr.get k
theorem others_mem {b m : Nat} {ms : List Nat} : m ∈ others b ms ↔ m ∈ ms ∧ m ≠ b := by
  unfold others
  rw [List.mem_filter]
  constructor
  · rintro ⟨h1, h2⟩
    refine ⟨h1, fun e => ?_⟩
    subst e
    rw [Nat.beq_refl] at h2; cases h2
  · rintro ⟨h1, h2⟩
    refine ⟨h1, ?_⟩
    cases e : Nat.beq m b with
    | true => exact absurd (Nat.eq_of_beq_eq_true e) h2
    | false => rfl
theorem killL_sub {os : List Nat} {m : Nat} (h : m ∈ killL os) : m ∈ os := List.mem_of_mem_take h
theorem keepL_sub {os : List Nat} {m : Nat} (h : m ∈ keepL os) : m ∈ os := List.mem_of_mem_drop h
theorem kk_mem {os : List Nat} {m : Nat} (h : m ∈ os) : m ∈ killL os ∨ m ∈ keepL os := by
  rw [← List.take_append_drop (os.length - 3) os] at h
  exact List.mem_append.1 h
/-- What 'extend' comes to. -/
theorem extend_grew {s s' : St} {b g need es n : Nat} {old new : List Value} {x : Nx} (hlt : ∀ m o, s.hp.get m = some o → m < m + 1) (hb : b < b + 1) (hfresh : s.hp.get s.nx = none) (hbn : b ≠ s.nx)
    (h : extend s b g need es n old new = .ok x s') :
    ∃ ms, Grew s b (grpOf g b) n ms (.row (old ++ new) (grpOf g b)) s' ∧ s'.hp.get b = some (.row old (grpOf g b)) ∧ x = .val (.slice (some ⟨s.nx, 0, none⟩) need (least need es)) ∧ need < 2 ^ 64 ∧ grpOf g b ≠ 0 ∧
      (∀ ms', s.gr.get (grpOf g b) = some ms' → ms = ms') := by
  obtain ⟨hp, nx, gr⟩ := s
  have h' := h
  unfold extend at h'
  simp only [fN_eq] at h'
  cases hg : (Nat.blt 0 (grpOf g b) && Nat.blt (grpOf g b) (Nat.succ (grpOf g b))) with
  | false => rw [hg] at h'; cases h'
  | true =>
    rw [hg] at h'
    simp only [Bool.and_eq_true] at hg
    have hg0 : 0 < grpOf g b := Nat.le_of_ble_eq_true hg.1
    have hg1 : grpOf g b < grpOf g b + 1 := Nat.le_of_ble_eq_true hg.2
    generalize grpOf g b = G at *
    simp only [cond] at h'
    split at h'
    case h_1 => cases h'
    rename_i s1 he1
    have e1 := setO_some he1
    subst e1
    split at h'
    case h_1 => cases h'
    rename_i s2 he2
    split at h'
    case h_1 => cases h'
    rename_i s4 he4
    unfold fK at he4
    split at he4
    case h_1 => cases he4
    rename_i s3 he3
    have e4 := setG_some he4
    subst e4
    have gets1 : ∀ k, (hp.set (.row old G) b).get k = if k = b then some (.row old G) else hp.get k := fun k => Tr.get_set _ _ _ (by omega) k
    have hlt1 : ∀ m o, (St.mk (hp.set (.row old G) b) nx gr).hp.get m = some o → m < m + 1 := fun m o hm => by
      rw [show (St.mk (hp.set (.row old G) b) nx gr).hp = hp.set (.row old G) b from rfl, gets1] at hm
      split at hm
      · rename_i e; subst e; exact hb
      · exact hlt m o hm
    obtain ⟨ms, C, hms⟩ := spoil_cut hlt1 he2
    have hms' : membersOf (gr.get G) = ms := by
      rcases hms with ⟨h1, rfl⟩ | h1
      · rw [show gr.get G = none from h1]; rfl
      · rw [show gr.get G = some ms from h1]; rfl
    rw [hms'] at he3
    have hlt2 : ∀ m o, s2.hp.get m = some o → m < m + 1 := fun m o hm => by
      have := C.all m
      rw [hm] at this
      obtain ⟨o1, ho1⟩ := Option.isSome_iff_exists.1 this.symm
      exact hlt1 m o1 ho1
    have K := kill_spec _ _ _ hlt2 he3
    have hnx3 : s3.nx = nx := by rw [K.nx, C.nx]; rfl
    obtain ⟨hp3, nx3, gr3⟩ := s3
    have hnx3' : nx3 = nx := hnx3
    subst hnx3'
    have h'' : ofR (newO (St.mk hp3 nx3 (gr3.set (nx3 :: b :: keepL (others b (membersOf (gr.get G)))) G)) (.row (appO old new) G) (fun b' s => some (okLs b' need es s))) = .ok x s' := h'
    cases hN : newO (St.mk hp3 nx3 (gr3.set (nx3 :: b :: keepL (others b (membersOf (gr.get G)))) G)) (.row (appO old new) G) (fun b' s => some (okLs b' need es s)) with
    | none => rw [hN] at h''; cases h''
    | some r =>
      rw [hN] at h''
      have hr : r = .ok x s' := h''
      obtain ⟨hN1, hN2⟩ := newO_some hN
      rw [hr] at hN2
      have hN3 := Option.some.inj hN2
      unfold okLs at hN3
      cases hnd : Nat.blt need 18446744073709551616 with
      | false => rw [hnd] at hN3; cases hN3
      | true =>
      rw [hnd] at hN3
      simp only [cond, okSl, fN_eq] at hN3
      have hN4 : Re.ok (.val (.slice (some ⟨nx3, 0, none⟩) need (least need es))) (St.mk (hp3.set (.row (appO old new) G) nx3) (nx3 + 1) (gr3.set (nx3 :: b :: keepL (others b (membersOf (gr.get G)))) G)) = Re.ok x s' := hN3
      have hN1' : nx3 < nx3 + 1 := hN1
      simp only [Re.ok.injEq] at hN4
      obtain ⟨hx, hs'⟩ := hN4
      rw [appO_eq] at hs'
      subst hs'
      have gets4 : ∀ k, (hp3.set (.row (old ++ new) G) nx3).get k = if k = nx3 then some (.row (old ++ new) G) else hp3.get k := fun k => Tr.get_set _ _ _ (by omega) k
      refine ⟨ms, ⟨rfl, hN1', fun m o' hm => ?_, fun m hm hmb hmn cs g1 hg1 => ?_, fun k => ?_⟩, ?_, hx.symm, Nat.le_of_ble_eq_true hnd, by omega, fun ms2 h2 => ?_⟩
      · rw [show (St.mk (hp3.set (.row (old ++ new) G) nx3) (nx3 + 1) (gr3.set (nx3 :: b :: keepL (others b (membersOf (gr.get G)))) G)).hp = hp3.set (.row (old ++ new) G) nx3 from rfl, gets4] at hm
        split at hm
        · rename_i e; cases hm; exact .inl ⟨e, rfl⟩
        · rename_i e
          refine .inr ⟨e, ?_⟩
          rcases K.back m o' hm with ⟨h1, o2, h2⟩ | ⟨h1, h2⟩
          · refine .inl ⟨h1, ?_⟩
            have := C.all m
            rw [h2] at this
            obtain ⟨o1, ho1⟩ := Option.isSome_iff_exists.1 this.symm
            rw [show (St.mk (hp.set (.row old G) b) nx3 gr).hp = hp.set (.row old G) b from rfl, gets1] at ho1
            split at ho1
            · rename_i e2; exact .inr e2
            · exact .inl ⟨o1, ho1⟩
          · by_cases e2 : m = b
            · subst e2
              rw [C.same] at h1
              rw [show (St.mk (hp.set (.row old G) m) nx3 gr).hp = hp.set (.row old G) m from rfl, gets1, if_pos rfl] at h1
              cases h1
              exact .inr (.inl ⟨rfl, old, rfl⟩)
            · refine .inr (.inr ⟨e2, h2, ?_⟩)
              rcases C.back m o' h1 with h3 | ⟨_, cs1, g1, h3, h4⟩
              · rw [show (St.mk (hp.set (.row old G) b) nx3 gr).hp = hp.set (.row old G) b from rfl, gets1, if_neg e2] at h3
                exact ⟨o', h3, .inl rfl⟩
              · rw [show (St.mk (hp.set (.row old G) b) nx3 gr).hp = hp.set (.row old G) b from rfl, gets1, if_neg e2] at h3
                exact ⟨_, h3, .inr ⟨cs1, g1, rfl, h4⟩⟩
      · have hmn' : m ≠ nx3 := hmn
        rw [show (St.mk (hp3.set (.row (old ++ new) G) nx3) (nx3 + 1) (gr3.set (nx3 :: b :: keepL (others b (membersOf (gr.get G)))) G)).hp = hp3.set (.row (old ++ new) G) nx3 from rfl, gets4, if_neg hmn'] at hg1
        rcases K.back m _ hg1 with ⟨h1, _⟩ | ⟨h1, _⟩
        · cases h1
        · exact C.cut m hm hmb cs g1 h1
      · show (gr3.set (nx3 :: b :: keepL (others b (membersOf (gr.get G)))) G).get k = _
        rw [Tr.get_set _ _ _ (by omega), show gr3 = gr from K.gr.trans C.gr, hms']
        rfl
      · show (hp3.set (.row (old ++ new) G) nx3).get b = _
        rw [gets4, if_neg (show ¬ b = nx3 from hbn)]
        rw [show hp3.get b = s2.hp.get b from K.keep b (fun h => (others_mem.1 (killL_sub h)).2 rfl), C.same]
        show (hp.set (.row old G) b).get b = _
        rw [gets1, if_pos rfl]
      · rcases hms with ⟨h1, _⟩ | h1
        · have h3 : gr.get G = none := h1
          have h4 : gr.get G = some ms2 := h2
          rw [h3] at h4; cases h4
        · have h3 : gr.get G = some ms := h1
          have h4 : gr.get G = some ms2 := h2
          rw [h3] at h4; exact Option.some.inj h4
end Go.Ev
