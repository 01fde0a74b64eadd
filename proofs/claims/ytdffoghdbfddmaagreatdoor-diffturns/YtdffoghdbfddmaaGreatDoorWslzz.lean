import Derived.Test.YtdffoghdbfddmaaGreatDoorDazz
/-
  The evaluator over any input: parts of lists.
-/
namespace Go.Sy
open Go Go.Ev
theorem pureRun_bind {α β : Type} {P : Program} (m : Sem α) (f : α → Sem β) : pureRun P (m >>= f) = (match pureRun P m with | some a => pureRun P (f a) | none => none) := by
  induction m with
  | pure a => rfl
  | program k ih => exact ih P
  | _ => rfl
theorem pureRun_und {P : Program} {t : TypeId} {d : TypeDesc} (h : P.underlying t = some d) : pureRun P (underlying t) = some d := by
  show pureRun P (match P.underlying t with | some d => pure d | none => stuck "no such type") = _
  rw [h]; rfl
theorem pureRun_size {P : Program} {t : TypeId} {n : Nat} (h : sizeOfT P t = some n) : pureRun P (sizeOf t) = some n := by
  unfold sizeOfT at h
  split at h
  case h_2 => cases h
  rename_i i hi
  cases h
  show pureRun P ((match P.info? t with | some i => pure i | none => stuck "no such type") >>= fun i => pure i.size) = _
  rw [hi]; rfl
section
variable {X : Fx} {env : Env} {s : St}
/-- x[:0] and x[0:] of nil. -/
theorem Xv.slN {t t0 n0 e t1 size : Nat} {z0 z : Option (List Value)} {ke : Sh} {x y : Operand} {k : IntKind} (ht : tk X.B.T t = some ⟨t0, n0, .sl e, z0⟩) (he : tk X.B.T e = some ⟨t1, size, ke, z⟩) (hx : ev env x = some (.slice none 0 0)) (hy : ev env y = some (.int k (.ofNat 0))) :
    Xv X (.slice t x none (some y) none) env s (.slice none 0 0) s ∧ Xv X (.slice t x (some y) none none) env s (.slice none 0 0) s := by
  have hu : X.P.underlying t = some (.slice e) := X.B.un ht
  have hs : sizeOfT X.P e = some size := X.B.sz he
  constructor
  · intro tm hf
    show xSlice X.P t (opd tm x) none (some (opd tm y)) none s = _
    rw [ev_opd hf hx, ev_opd hf hy]
    unfold xSlice
    simp only [hu]
    show ofPure X.P (Instr.slice t (.slice none 0 0) none (some (.int k (.ofNat 0))) none) s = _
    unfold ofPure Instr.slice
    rw [pureRun_bind, pureRun_und hu]
    simp only [Instr.sliceBounds, Instr.sliceBound, asIntOf, pureRun_bind, pureRun_size hs]
    rfl
  · intro tm hf
    show xSlice X.P t (opd tm x) (some (opd tm y)) none none s = _
    rw [ev_opd hf hx, ev_opd hf hy]
    unfold xSlice
    simp only [hu]
    show ofPure X.P (Instr.slice t (.slice none 0 0) (some (.int k (.ofNat 0))) none none) s = _
    unfold ofPure Instr.slice
    rw [pureRun_bind, pureRun_und hu]
    simp only [Instr.sliceBounds, Instr.sliceBound, asIntOf, pureRun_bind, pureRun_size hs]
    rfl
theorem At.drop {s : St} {b o : Nat} {cs : List Value} (h : At s (some ⟨b, o, none⟩) cs) {n : Nat} (hn : n ≤ cs.length) : At s (some ⟨b, o + n, none⟩) (cs.drop n) := by
  rcases h with ⟨rfl, h⟩ | ⟨b', o', h, hr⟩
  · rcases h with h | ⟨_, _, _, h⟩ <;> cases h
  · cases h
    obtain ⟨l, h1, h2, h3⟩ := readAt_some hr
    refine .inr ⟨b, o + n, rfl, ?_⟩
    rw [List.length_drop] at h2 ⊢
    rw [readAt_of h1 (by rw [List.length_drop]; omega)]
    congr 1
    rw [h3, List.drop_take, List.drop_drop]
    congr 1
    rw [List.length_take, List.length_drop]; omega
/-- x[:h] of a list that may grow. -/
theorem Xv.slHi {t t0 n0 e t1 size : Nat} {z0 z : Option (List Value)} {ke : Sh} {x y : Operand} {k : IntKind} {q : Option Addr} {n c γ h : Nat} {cs : List Value} (ht : tk X.B.T t = some ⟨t0, n0, .sl e, z0⟩) (he : tk X.B.T e = some ⟨t1, size, ke, z⟩) (hx : ev env x = some (.slice q n c)) (hy : ev env y = some (.int k (.ofNat h))) (hg : Gw s q n c size cs γ) (hh : h ≤ n) (hn : n < 2 ^ 60) :
    Xv X (.slice t x none (some y) none) env s (.slice q h c) s ∧ At s q (cs.take (h * size)) := by
  refine ⟨?_, (hg.sl.at).take (by rw [hg.len]; exact Nat.mul_le_mul_right _ hh)⟩
  rcases hg.at' with ⟨rfl, rfl, rfl⟩ | ⟨b, g, rfl, h1, h2, h3⟩
  · have h0 : h = 0 := by omega
    subst h0
    exact (Xv.slN ht he hx hy).1
  · rcases h3 with rfl | rfl
    · obtain ⟨a1, a2, a3⟩ := cap_least (n := n) (es := size) (by omega)
      exact Xv.sl0 ht he hx hy (by rw [a1]; exact hh) (fun h => by rw [a2] at h; cases h)
    · exact Xv.sl0 ht he hx hy (by rw [cap_sure.1]; exact hh) (fun _ => by rw [cap_sure.1])
/-- x[l:] of a list that may grow. -/
theorem Xv.slLo {t t0 n0 e t1 size : Nat} {z0 z : Option (List Value)} {ke : Sh} {x y : Operand} {k : IntKind} {q : Option Addr} {n c γ l : Nat} {cs : List Value} (ht : tk X.B.T t = some ⟨t0, n0, .sl e, z0⟩) (he : tk X.B.T e = some ⟨t1, size, ke, z⟩) (hx : ev env x = some (.slice q n c)) (hy : ev env y = some (.int k (.ofNat l))) (hg : Gw s q n c size cs γ) (hh : l ≤ n) (hn : n < 2 ^ 60) :
    ∃ q' c', Xv X (.slice t x (some y) none none) env s (.slice q' (n - l) c') s ∧ At s q' (cs.drop (l * size)) ∧ (q' ≠ none → q ≠ none) := by
  rcases hg.at' with ⟨rfl, rfl, rfl⟩ | ⟨b, g, rfl, h1, h2, h3⟩
  · have h0 : l = 0 := by omega
    subst h0
    refine ⟨none, 0, (Xv.slN ht he hx hy).2, ?_, id⟩
    have := hg.len
    have hcs : cs = [] := List.eq_nil_of_length_eq_zero (by omega)
    subst hcs
    exact .inl ⟨by simp, .inl rfl⟩
  · have hA := hg.sl.at
    have hd : At s (some ⟨b, 0 + l * size, none⟩) (cs.drop (l * size)) := hA.drop (by rw [hg.len]; exact Nat.mul_le_mul_right _ hh)
    have base : ∀ tm, Fits env tm → exec X.P (.slice t x (some y) none none) tm s = ofO (slice2 size b 0 c l n) s := fun tm hf => by
      show xSlice X.P t (opd tm x) (some (opd tm y)) none none s = _
      rw [ev_opd hf hx, ev_opd hf hy]
      unfold xSlice
      simp only [show X.P.underlying t = _ from X.B.un ht, show sizeOfT X.P e = _ from X.B.sz he]
      rfl
    have hcap : capOf c = n := by
      rcases h3 with rfl | rfl
      · exact (cap_least (by omega)).1
      · exact cap_sure.1
    have key : slice2 size b 0 c l n = cond (capSure c) (cond (Nat.beq n l) (mkSl b 0 (Nat.sub n l) (sure (Nat.sub n l))) (mkSl b (Nat.add 0 (Nat.mul l size)) (Nat.sub n l) (sure (Nat.sub n l)))) (cond (Nat.beq l 0) (mkSl b 0 n c) (cond (Nat.blt l n) (cond (Nat.beq (esOf c) size) (mkSl b (Nat.add 0 (Nat.mul l size)) (Nat.sub n l) (least (Nat.sub n l) size)) none) (some (.slice (some ⟨b, 0, some 0⟩) 0 0)))) := by
      unfold slice2
      rw [hcap, show Nat.ble l n = true from Nat.ble_eq_true_of_le hh, show Nat.ble n n = true from Nat.ble_eq_true_of_le (Nat.le_refl _)]; rfl
    have mk : ∀ o m d : Nat, mkSl b o m d = some (.slice (some ⟨b, o, none⟩) m d) := fun o m d => by unfold mkSl; simp only [fN_eq]
    rcases h3 with rfl | rfl
    · obtain ⟨a1, a2, a3⟩ := cap_least (n := n) (es := size) (by omega)
      rw [a2, a3, Nat.beq_refl] at key
      by_cases hl0 : l = 0
      · subst hl0
        refine ⟨some ⟨b, 0, none⟩, least n size, fun tm hf => ?_, by rw [Nat.zero_mul, List.drop_zero]; exact hA, fun h => h⟩
        rw [base tm hf, key]
        show ofO (mkSl b 0 n _) s = _
        rw [mk]; rfl
      · by_cases hln : l < n
        · refine ⟨some ⟨b, 0 + l * size, none⟩, least (n - l) size, fun tm hf => ?_, hd, fun _ h => by cases h⟩
          rw [base tm hf, key, show Nat.beq l 0 = false from by cases l with | zero => exact absurd rfl hl0 | succ n => rfl, show Nat.blt l n = true from Nat.ble_eq_true_of_le hln]
          show ofO (mkSl b (0 + l * size) (n - l) (least (n - l) size)) s = _
          rw [mk]; rfl
        · have hle : l = n := by omega
          subst hle
          refine ⟨some ⟨b, 0, some 0⟩, 0, fun tm hf => ?_, ?_, fun _ h => by cases h⟩
          · rw [base tm hf, key, show Nat.beq l 0 = false from by cases l with | zero => exact absurd rfl hl0 | succ n => rfl, show Nat.blt l l = false from by rw [blt_dec]; exact decide_eq_false (Nat.lt_irrefl _), Nat.sub_self]
            rfl
          · exact .inl ⟨List.drop_eq_nil_of_le (by rw [hg.len]; exact Nat.le_refl _), .inr ⟨b, 0, 0, rfl⟩⟩
    · rw [cap_sure.2] at key
      by_cases hln : n = l
      · subst hln
        refine ⟨some ⟨b, 0, none⟩, sure (n - n), fun tm hf => ?_, ?_, fun _ h => by cases h⟩
        · rw [base tm hf, key, Nat.beq_refl]
          show ofO (mkSl b 0 (n - n) (sure (n - n))) s = _
          rw [mk]; rfl
        · rw [List.drop_eq_nil_of_le (by rw [hg.len]; exact Nat.le_refl _)]
          have := hA.take (n := 0) (Nat.zero_le _)
          rwa [List.take_zero] at this
      · refine ⟨some ⟨b, 0 + l * size, none⟩, sure (n - l), fun tm hf => ?_, hd, fun _ h => by cases h⟩
        rw [base tm hf, key, show Nat.beq n l = false from by rw [beq_dec]; exact decide_eq_false hln]
        show ofO (mkSl b (0 + l * size) (n - l) (sure (n - l))) s = _
        rw [mk]; rfl
end
section
variable {X : Fx} {env : Env} {df : List Deferred} {s : St} {Q : Post} {all os : List Oper} {d : Option Nat} {ty : TypeId} {pos : String} {af : Array Edge} {g : Option (Nat × Bool)}
theorem Wo.slHi {t t0 n0 e t1 size : Nat} {z0 z : Option (List Value)} {ke : Sh} {x y : Operand} {k : IntKind} {q : Option Addr} {n c γ h : Nat} {cs : List Value} (hgd : wantsE all env g = some true) (ht : tk X.B.T t = some ⟨t0, n0, .sl e, z0⟩) (he : tk X.B.T e = some ⟨t1, size, ke, z⟩) (hd : dOk X d = true) (hx : ev env x = some (.slice q n c)) (hy : ev env y = some (.int k (.ofNat h))) (hg : Gw s q n c size cs γ) (hh : h ≤ n) (hn : n < 2 ^ 60)
    (K : At s q (cs.take (h * size)) → Wo X all os (up d (.slice q h c) env) df s Q) : Wo X all (⟨d, .slice t x none (some y) none, ty, pos, af, g⟩ :: os) env df s Q :=
  Wo.val hgd (Xv.slHi ht he hx hy hg hh hn).1 hd (K (Xv.slHi ht he hx hy hg hh hn).2)
/-- x[l:], not at its end: where it begins. -/
theorem Xv.slLoB {X : Fx} {env : Env} {s : St} {t t0 n0 e t1 size : Nat} {z0 z : Option (List Value)} {ke : Sh} {x y : Operand} {k : IntKind} {b n c γ l : Nat} {cs : List Value} (ht : tk X.B.T t = some ⟨t0, n0, .sl e, z0⟩) (he : tk X.B.T e = some ⟨t1, size, ke, z⟩) (hx : ev env x = some (.slice (some ⟨b, 0, none⟩) n c)) (hy : ev env y = some (.int k (.ofNat l))) (hg : Gw s (some ⟨b, 0, none⟩) n c size cs γ) (hh : l < n) (hn : n < 2 ^ 60) :
    ∃ c', Xv X (.slice t x (some y) none none) env s (.slice (some ⟨b, 0 + l * size, none⟩) (n - l) c') s := by
  have hc : c = least n size ∨ c = sure n := by
    rcases hg.at' with ⟨e, _⟩ | ⟨b', g, e, _, _, h⟩
    · cases e
    · exact h
  have base : ∀ tm, Fits env tm → exec X.P (.slice t x (some y) none none) tm s = ofO (slice2 size b 0 c l n) s := fun tm hf => by
    show xSlice X.P t (opd tm x) (some (opd tm y)) none none s = _
    rw [ev_opd hf hx, ev_opd hf hy]
    unfold xSlice
    simp only [show X.P.underlying t = _ from X.B.un ht, show sizeOfT X.P e = _ from X.B.sz he]
    rfl
  have hcap : capOf c = n := by
    rcases hc with rfl | rfl
    · exact (cap_least (by omega)).1
    · exact cap_sure.1
  have key : slice2 size b 0 c l n = cond (capSure c) (cond (Nat.beq n l) (mkSl b 0 (Nat.sub n l) (sure (Nat.sub n l))) (mkSl b (Nat.add 0 (Nat.mul l size)) (Nat.sub n l) (sure (Nat.sub n l)))) (cond (Nat.beq l 0) (mkSl b 0 n c) (cond (Nat.blt l n) (cond (Nat.beq (esOf c) size) (mkSl b (Nat.add 0 (Nat.mul l size)) (Nat.sub n l) (least (Nat.sub n l) size)) none) (some (.slice (some ⟨b, 0, some 0⟩) 0 0)))) := by
    unfold slice2
    rw [hcap, show Nat.ble l n = true from Nat.ble_eq_true_of_le (by omega), show Nat.ble n n = true from Nat.ble_eq_true_of_le (Nat.le_refl _)]; rfl
  have mk : ∀ o m d : Nat, mkSl b o m d = some (.slice (some ⟨b, o, none⟩) m d) := fun o m d => by unfold mkSl; simp only [fN_eq]
  rcases hc with rfl | rfl
  · obtain ⟨a1, a2, a3⟩ := cap_least (n := n) (es := size) (by omega)
    rw [a2, a3, Nat.beq_refl] at key
    by_cases hl0 : l = 0
    · subst hl0
      refine ⟨least n size, fun tm hf => ?_⟩
      rw [base tm hf, key, Nat.zero_mul]
      show ofO (mkSl b 0 n _) s = _
      rw [mk]; rfl
    · refine ⟨least (n - l) size, fun tm hf => ?_⟩
      rw [base tm hf, key, show Nat.beq l 0 = false from by cases l with | zero => exact absurd rfl hl0 | succ n => rfl, show Nat.blt l n = true from Nat.ble_eq_true_of_le hh]
      show ofO (mkSl b (0 + l * size) (n - l) (least (n - l) size)) s = _
      rw [mk]; rfl
  · rw [cap_sure.2] at key
    refine ⟨sure (n - l), fun tm hf => ?_⟩
    rw [base tm hf, key, show Nat.beq n l = false from by rw [beq_dec]; exact decide_eq_false (by omega)]
    show ofO (mkSl b (0 + l * size) (n - l) (sure (n - l))) s = _
    rw [mk]; rfl
theorem Wo.slLoB {t t0 n0 e t1 size : Nat} {z0 z : Option (List Value)} {ke : Sh} {x y : Operand} {k : IntKind} {b n c γ l : Nat} {cs : List Value} (hgd : wantsE all env g = some true) (ht : tk X.B.T t = some ⟨t0, n0, .sl e, z0⟩) (he : tk X.B.T e = some ⟨t1, size, ke, z⟩) (hd : dOk X d = true) (hx : ev env x = some (.slice (some ⟨b, 0, none⟩) n c)) (hy : ev env y = some (.int k (.ofNat l))) (hg : Gw s (some ⟨b, 0, none⟩) n c size cs γ) (hh : l < n) (hn : n < 2 ^ 60)
    (K : ∀ c', Wo X all os (up d (.slice (some ⟨b, 0 + l * size, none⟩) (n - l) c') env) df s Q) : Wo X all (⟨d, .slice t x (some y) none none, ty, pos, af, g⟩ :: os) env df s Q := by
  obtain ⟨c', h1⟩ := Xv.slLoB (X := X) (env := env) ht he hx hy hg hh hn
  exact Wo.val hgd h1 hd (K c')
theorem Wo.slLo {t t0 n0 e t1 size : Nat} {z0 z : Option (List Value)} {ke : Sh} {x y : Operand} {k : IntKind} {q : Option Addr} {n c γ l : Nat} {cs : List Value} (hgd : wantsE all env g = some true) (ht : tk X.B.T t = some ⟨t0, n0, .sl e, z0⟩) (he : tk X.B.T e = some ⟨t1, size, ke, z⟩) (hd : dOk X d = true) (hx : ev env x = some (.slice q n c)) (hy : ev env y = some (.int k (.ofNat l))) (hg : Gw s q n c size cs γ) (hh : l ≤ n) (hn : n < 2 ^ 60)
    (K : ∀ q' c', At s q' (cs.drop (l * size)) → (q' ≠ none → q ≠ none) → Wo X all os (up d (.slice q' (n - l) c') env) df s Q) : Wo X all (⟨d, .slice t x (some y) none none, ty, pos, af, g⟩ :: os) env df s Q := by
  obtain ⟨q', c', h1, h2, h3⟩ := Xv.slLo (X := X) (env := env) ht he hx hy hg hh hn
  exact Wo.val hgd h1 hd (K q' c' h2 h3)
end
end Go.Sy
