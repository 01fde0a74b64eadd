import Derived.Test.YtdffoghdbfddmaaGreatDoorWmpzz
/-
  The evaluator over any input: parts of lists and of arrays, copies.
-/
namespace Go.Sy
open Go Go.Ev
/-- A room that is known. -/
structure Cap (n c size : Nat) : Prop where
  le : n ≤ capOf c
  es : 0 < n → capSure c = false → esOf c = size
theorem Cap.sure {n m size : Nat} (h : n ≤ m) : Cap n (sure m) size := ⟨by rw [cap_sure.1]; exact h, fun _ e => by rw [cap_sure.2] at e; cases e⟩
theorem Cap.least {n m size : Nat} (h : n ≤ m) (hm : m < 18446744073709551616) : Cap n (least m size) size := ⟨by rw [(cap_least hm).1]; exact h, fun _ _ => (cap_least hm).2.2⟩
theorem Cap.mono {n m c size : Nat} (h : Cap n c size) (k : m ≤ n) : Cap m c size := ⟨Nat.le_trans k h.le, fun a => h.es (Nat.lt_of_lt_of_le a k)⟩
theorem capSure_eq {c : Nat} (h : capSure c = true) : c = Go.Ev.sure (capOf c) := by
  unfold capOf
  rw [h]
  have e : c % 2 = 1 := Nat.eq_of_beq_eq_true h
  show c = 2 * (c / 2) + 1
  omega
theorem cap_lt {c : Nat} (h : capSure c = false) : capOf c < 18446744073709551616 := by
  unfold capOf
  rw [h]
  exact Nat.mod_lt _ (by decide)
theorem Sl.take {s : St} {q : Option Addr} {cs : List Value} {γ n : Nat} (h : Sl s q cs γ) : Sl s q (cs.take n) γ := by
  rcases h with ⟨rfl, h⟩ | ⟨b, o, ob, l, h1, h2, h3, h4, h5, h6⟩
  · exact .inl ⟨by simp, h⟩
  · refine .inr ⟨b, o, ob, l, h1, h2, h3, h4, by rw [List.length_take]; omega, ?_⟩
    conv => rhs; rw [← h6]
    rw [List.take_take, List.length_take]
theorem Sl.drop {s : St} {b o : Nat} {cs : List Value} {γ n : Nat} (h : Sl s (some ⟨b, o, none⟩) cs γ) (hn : n ≤ cs.length) : Sl s (some ⟨b, o + n, none⟩) (cs.drop n) γ := by
  rcases h with ⟨rfl, h⟩ | ⟨b', o', ob, l, h1, h2, h3, h4, h5, h6⟩
  · rcases h with h | ⟨_, _, _, h⟩ <;> cases h
  · cases h1
    have h5' := h5
    rw [List.length_drop] at h5'
    refine .inr ⟨b, o + n, ob, l, rfl, h2, h3, h4, by rw [List.length_drop, List.length_drop]; omega, ?_⟩
    conv => rhs; rw [← h6]
    rw [List.drop_take, List.drop_drop, List.length_drop]
theorem Sl.pos {s : St} {q : Option Addr} {cs : List Value} {γ : Nat} (h : Sl s q cs γ) (hc : cs ≠ []) : ∃ b o, q = some ⟨b, o, none⟩ := by
  rcases h with ⟨rfl, _⟩ | ⟨b, o, _, _, h1, _⟩
  · exact absurd rfl hc
  · exact ⟨b, o, h1⟩
theorem mkSl_eq (b o m d : Nat) : mkSl b o m d = some (.slice (some ⟨b, o, none⟩) m d) := by unfold mkSl; simp only [fN_eq]
section
variable {X : Fx} {env : Env} {s : St}
/-- x[:h] -/
theorem Xv.slH {t t0 n0 e t1 size : Nat} {z0 z : Option (List Value)} {ke : Sh} {x y : Operand} {k : IntKind} {b o n c h : Nat} (ht : tk X.B.T t = some ⟨t0, n0, .sl e, z0⟩) (he : tk X.B.T e = some ⟨t1, size, ke, z⟩) (hx : ev env x = some (.slice (some ⟨b, o, none⟩) n c)) (hy : ev env y = some (.int k (.ofNat h))) (hc : Cap n c size) (hh : h ≤ n) :
    Xv X (.slice t x none (some y) none) env s (.slice (some ⟨b, o, none⟩) h c) s := Xv.sl0 ht he hx hy (Nat.le_trans hh hc.le) capSure_eq
/-- x[l:] -/
theorem Xv.slL {t t0 n0 e t1 size : Nat} {z0 z : Option (List Value)} {ke : Sh} {x y : Operand} {k : IntKind} {b o n c l γ : Nat} {cs : List Value} (ht : tk X.B.T t = some ⟨t0, n0, .sl e, z0⟩) (he : tk X.B.T e = some ⟨t1, size, ke, z⟩) (hx : ev env x = some (.slice (some ⟨b, o, none⟩) n c)) (hy : ev env y = some (.int k (.ofNat l))) (hs : Sl s (some ⟨b, o, none⟩) cs γ) (hl : cs.length = n * size) (hc : Cap n c size) (hh : l ≤ n) :
    ∃ q' c', Xv X (.slice t x (some y) none none) env s (.slice q' (n - l) c') s ∧ Sl s q' (cs.drop (l * size)) γ ∧ Cap (n - l) c' size := by
  have hd : Sl s (some ⟨b, o + l * size, none⟩) (cs.drop (l * size)) γ := hs.drop (by rw [hl]; exact Nat.mul_le_mul_right _ hh)
  have base : ∀ tm, Fits env tm → exec X.P (.slice t x (some y) none none) tm s = ofO (slice2 size b o c l n) s := fun tm hf => by
    show xSlice X.P t (opd tm x) (some (opd tm y)) none none s = _
    rw [ev_opd hf hx, ev_opd hf hy]
    unfold xSlice
    simp only [show X.P.underlying t = _ from X.B.un ht, show sizeOfT X.P e = _ from X.B.sz he]
    rfl
  have b1 : Nat.ble l n = true := Nat.ble_eq_true_of_le hh
  have b2 : Nat.ble n (capOf c) = true := Nat.ble_eq_true_of_le hc.le
  have hle := hc.le
  cases hsu : capSure c with
  | true =>
    by_cases e : capOf c = l
    · have hln : l = n := by omega
      subst hln
      refine ⟨some ⟨b, o, none⟩, Go.Ev.sure (l - l), fun tm hf => ?_, ?_, Cap.sure (Nat.le_refl _)⟩
      · rw [base tm hf]; unfold slice2
        rw [b1, b2, hsu, show Nat.beq (capOf c) l = true by rw [e]; exact Nat.beq_refl _]
        show ofO (mkSl b o (l - l) (Go.Ev.sure (capOf c - l))) s = _
        rw [mkSl_eq, e]; rfl
      · rw [List.drop_eq_nil_of_le (by omega)]
        have := hs.take (n := 0)
        rwa [List.take_zero] at this
    · refine ⟨some ⟨b, o + l * size, none⟩, Go.Ev.sure (capOf c - l), fun tm hf => ?_, hd, Cap.sure (by omega)⟩
      rw [base tm hf]; unfold slice2
      rw [b1, b2, hsu, show Nat.beq (capOf c) l = false by rw [beq_dec]; exact decide_eq_false e]
      show ofO (mkSl b (o + l * size) (n - l) (Go.Ev.sure (capOf c - l))) s = _
      rw [mkSl_eq]; rfl
  | false =>
    have hlt := cap_lt hsu
    by_cases e0 : l = 0
    · subst e0
      refine ⟨some ⟨b, o, none⟩, c, fun tm hf => ?_, by rw [Nat.zero_mul, List.drop_zero]; exact hs, hc⟩
      rw [base tm hf]; unfold slice2
      rw [b1, b2, hsu]
      show ofO (mkSl b o n c) s = _
      rw [mkSl_eq]; rfl
    · have e1 : Nat.beq l 0 = false := by rw [beq_dec]; exact decide_eq_false e0
      by_cases e2 : l < capOf c
      · refine ⟨some ⟨b, o + l * size, none⟩, Go.Ev.least (capOf c - l) size, fun tm hf => ?_, hd, Cap.least (by omega) (by omega)⟩
        rw [base tm hf]; unfold slice2
        rw [b1, b2, hsu, e1, show Nat.blt l (capOf c) = true from Nat.ble_eq_true_of_le e2, hc.es (by omega) hsu, Nat.beq_refl]
        show ofO (mkSl b (o + l * size) (n - l) (Go.Ev.least (capOf c - l) size)) s = _
        rw [mkSl_eq]; rfl
      · have hln : l = n := by omega
        subst hln
        refine ⟨some ⟨b, 0, some 0⟩, 0, fun tm hf => ?_, .inl ⟨List.drop_eq_nil_of_le (by omega), .inr ⟨b, 0, 0, rfl⟩⟩, ?_⟩
        · rw [base tm hf]; unfold slice2
          rw [b1, b2, hsu, e1, show Nat.blt l (capOf c) = false by rw [blt_dec]; exact decide_eq_false e2, Nat.sub_self]
          rfl
        · rw [Nat.sub_self]; exact ⟨Nat.zero_le _, fun h => absurd h (Nat.lt_irrefl _)⟩
/-- Arrays. -/
theorem Xv.slP {t t0 n0 n e t1 size : Nat} {z0 z : Option (List Value)} {ke : Sh} {x : Operand} {b o : Nat} (ht : tk X.B.T t = some ⟨t0, n0, .ar n e, z0⟩) (he : tk X.B.T e = some ⟨t1, size, ke, z⟩) (hx : ev env x = some (.pointer (some ⟨b, o, none⟩))) (h0 : 0 < n) :
    Xv X (.slice t x none none none) env s (.slice (some ⟨b, o, none⟩) n (sure n)) s ∧
    (∀ {y : Operand} {k : IntKind} {l : Nat}, ev env y = some (.int k (.ofNat l)) → l < n → Xv X (.slice t x (some y) none none) env s (.slice (some ⟨b, o + l * size, none⟩) (n - l) (sure (n - l))) s) ∧
    (∀ {y : Operand} {k : IntKind} {h : Nat}, ev env y = some (.int k (.ofNat h)) → h ≤ n → Xv X (.slice t x none (some y) none) env s (.slice (some ⟨b, o, none⟩) h (sure n)) s) := by
  have hu : X.P.underlying t = some (.array n e) := X.B.un ht
  have hs : sizeOfT X.P e = some size := X.B.sz he
  have key : ∀ l h, l ≤ h → h ≤ n → l < n → slice2 size b o (sure n) l h = some (.slice (some ⟨b, o + l * size, none⟩) (h - l) (sure (n - l))) := fun l h a1 a2 a3 => by
    unfold slice2
    rw [cap_sure.1, cap_sure.2, show Nat.ble l h = true from Nat.ble_eq_true_of_le a1, show Nat.ble h n = true from Nat.ble_eq_true_of_le a2, show Nat.beq n l = false by rw [beq_dec]; exact decide_eq_false (by omega)]
    show mkSl b (o + l * size) (h - l) (sure (n - l)) = _
    rw [mkSl_eq]
  refine ⟨fun tm hf => ?_, fun {y k l} hy hl tm hf => ?_, fun {y k h} hy hh tm hf => ?_⟩
  · show xSlice X.P t (opd tm x) none none none s = _
    rw [ev_opd hf hx]
    unfold xSlice
    simp only [hu, hs]
    show ofO (slice2 size b o (sure n) 0 n) s = _
    rw [key 0 n (by omega) (by omega) h0, Nat.zero_mul]; rfl
  · show xSlice X.P t (opd tm x) (some (opd tm y)) none none s = _
    rw [ev_opd hf hx, ev_opd hf hy]
    unfold xSlice
    simp only [hu, hs]
    show ofO (slice2 size b o (sure n) l n) s = _
    rw [key l n (by omega) (by omega) hl]; rfl
  · show xSlice X.P t (opd tm x) none (some (opd tm y)) none s = _
    rw [ev_opd hf hx, ev_opd hf hy]
    unfold xSlice
    simp only [hu, hs]
    show ofO (slice2 size b o (sure n) 0 h) s = _
    rw [key 0 h (by omega) hh h0, Nat.zero_mul]; rfl
/-- copy -/
theorem Xv.cpy {t t0 n0 e t1 size u : Nat} {z0 z : Option (List Value)} {ke : Sh} {x y : Operand} {b o n c γ : Nat} {q : Option Addr} {k c' : Nat} {l cs : List Value} (ht : tk X.B.T t = some ⟨t0, n0, .sl e, z0⟩) (he : tk X.B.T e = some ⟨t1, size, ke, z⟩) (h0 : 0 < size) (hx : ev env x = some (.slice (some ⟨b, o, none⟩) n c)) (hy : ev env y = some (.slice q k c')) (hr : Rw s b l γ) (ha : At s q cs) (hl : cs.length = k * size) (h1 : ∀ v ∈ cs, one v = true) (hn : o + n * size ≤ l.length) :
    ∃ s', Xv X (.call ⟨.builtin .copy, #[x, y], #[t, u]⟩) env s (nI (min k n)) s' ∧ Rw s' b (lov l o (cs.take (min k n * size))) γ ∧ s'.nx = s.nx ∧ Kp (fun c => c = γ) s s' := by
  obtain ⟨g, hr1, rfl⟩ := hr
  have hm : min k n * size ≤ k * size := Nat.mul_le_mul_right _ (Nat.min_le_left _ _)
  have hm2 : min k n * size ≤ n * size := Nat.mul_le_mul_right _ (Nat.min_le_right _ _)
  obtain ⟨s', a1, a2, a3, a4⟩ := writeAt_ok hr1 (vs := cs.take (min k n * size)) (off := o) (by rw [List.length_take]; omega) (fun v hv => h1 v (List.mem_of_mem_take hv))
  refine ⟨s', fun tm hf => ?_, ⟨g, a2, rfl⟩, a3, a4⟩
  show xCopy X.P [t, u] (opds tm [x, y]) s = _
  rw [evs_opds hf (xs := [x, y]) (vs := [.slice (some ⟨b, o, none⟩) n c, .slice q k c']) (by unfold evs; rw [hx]; simp only [evs, hy])]
  unfold xCopy
  simp only [show X.P.underlying t = _ from X.B.un ht]
  unfold copyV
  simp only [show sizeOfT X.P e = _ from X.B.sz he, lenOfV]
  rw [fN_eq]
  have hc : cellsFrom s size (min k n) (.slice q k c') = some (cs.take (min k n * size)) := by
    have := cells_at (k := min k n) (c := c') (ha.take (n := min k n * size) (by omega)) (by rw [List.length_take]; omega) h0
    rcases q with _ | ⟨qb, qo, _ | p⟩ <;> exact this
  rw [show Nat.min k n = min k n from rfl, hc]
  simp only [a1]
end
section
variable {X : Fx} {env : Env} {df : List Deferred} {s : St} {Q : Post} {all os : List Oper} {d : Option Nat} {ty : TypeId} {pos : String} {af : Array Edge} {gd : Option (Nat × Bool)}
theorem Wo.cpy {t t0 n0 e t1 size u : Nat} {z0 z : Option (List Value)} {ke : Sh} {x y : Operand} {b o n c γ : Nat} {q : Option Addr} {k c' : Nat} {l cs : List Value} (hg : wantsE all env gd = some true) (hd : dOk X d = true) (ht : tk X.B.T t = some ⟨t0, n0, .sl e, z0⟩) (he : tk X.B.T e = some ⟨t1, size, ke, z⟩) (h0 : Nat.blt 0 size = true) (hx : ev env x = some (.slice (some ⟨b, o, none⟩) n c)) (hy : ev env y = some (.slice q k c')) (hr : Rw s b l γ) (ha : At s q cs) (hl : cs.length = k * size) (h1 : ∀ v ∈ cs, one v = true) (hn : o + n * size ≤ l.length)
    (K : ∀ s', Rw s' b (lov l o (cs.take (min k n * size))) γ → s'.nx = s.nx → Kp (fun c => c = γ) s s' → Wo X all os (up d (nI (min k n)) env) df s' Q) : Wo X all (⟨d, .call ⟨.builtin .copy, #[x, y], #[t, u]⟩, ty, pos, af, gd⟩ :: os) env df s Q := by
  obtain ⟨s', a, b, c, e⟩ := Xv.cpy (X := X) (u := u) ht he (Nat.le_of_ble_eq_true h0) hx hy hr ha hl h1 hn
  exact Wo.val hg a hd (K s' b c e)
theorem Wo.slL {t t0 n0 e t1 size : Nat} {z0 z : Option (List Value)} {ke : Sh} {x y : Operand} {k : IntKind} {b o n c l γ : Nat} {cs : List Value} (hg : wantsE all env gd = some true) (hd : dOk X d = true) (ht : tk X.B.T t = some ⟨t0, n0, .sl e, z0⟩) (he : tk X.B.T e = some ⟨t1, size, ke, z⟩) (hx : ev env x = some (.slice (some ⟨b, o, none⟩) n c)) (hy : ev env y = some (.int k (.ofNat l))) (hs : Sl s (some ⟨b, o, none⟩) cs γ) (hl : cs.length = n * size) (hc : Cap n c size) (hh : l ≤ n)
    (K : ∀ q' c', Sl s q' (cs.drop (l * size)) γ → Cap (n - l) c' size → Wo X all os (up d (.slice q' (n - l) c') env) df s Q) : Wo X all (⟨d, .slice t x (some y) none none, ty, pos, af, gd⟩ :: os) env df s Q := by
  obtain ⟨q', c', h1, h2, h3⟩ := Xv.slL (X := X) ht he hx hy hs hl hc hh
  exact Wo.val hg h1 hd (K q' c' h2 h3)
end
end Go.Sy
