import Derived.Test.YtdffoghdbfddmaaGreatDoorLwzz
/-
  The evaluator over any input: append in known room; lists that lie in a block of their own.
-/
namespace Go.Sy
open Go Go.Ev
theorem appc_ok {P : Program} {s : St} {e size : Nat} (hs : sizeOfT P e = some size) (hz : zeroFit P e size = true) {b n cap γ : Nat} {l : List Value} (hr : Rw s b l γ) {y : Value} {k : Nat} {new : List Value}
    (hk : lenOfV y = some k) (hy : cellsFrom s size k y = some new) (hl : new.length = k * size) (h1 : ∀ v ∈ new, one v = true) (hle : roomFor P e (n + k) = true) (hc : n + k ≤ cap) (hll : (n + k) * size ≤ l.length) :
    ∃ s', appendV P s e (.slice (some ⟨b, 0, none⟩) n (sure cap)) y = .ok (.val (.slice (some ⟨b, 0, none⟩) (n + k) (sure cap))) s' ∧ Rw s' b (lov l (n * size) new) γ ∧ s'.nx = s.nx ∧ Kp (fun x => x = γ) s s' := by
  obtain ⟨g, hr1, rfl⟩ := hr
  rw [Nat.add_mul] at hll
  obtain ⟨s', a1, a2, a3, a4⟩ := writeAt_ok hr1 (vs := new) (off := n * size) (by omega) h1
  refine ⟨s', ?_, ⟨g, a2, rfl⟩, a3, a4⟩
  have e0 : appendV P s e (.slice (some ⟨b, 0, none⟩) n (sure cap)) y = appendN P s e size (some ⟨b, 0, none⟩) n (sure cap) (n + k) new := by
    unfold appendV
    simp only [hs, hk, hy, fN_eq]
    rfl
  rw [e0]
  unfold appendN
  rw [hle, hz]
  show appendB s size b 0 n (sure cap) (n + k) new = _
  unfold appendB
  rw [cap_sure.1, show Nat.ble (n + k) cap = true from Nat.ble_eq_true_of_le hc]
  show (match writeAt s b (0 + n * size) new with | some s => Re.ok (.val (.slice (some ⟨b, 0, none⟩) (n + k) (sure cap))) s | none => .no) = _
  rw [Nat.zero_add, a1]
section
variable {X : Fx} {env : Env} {df : List Deferred} {s : St} {Q : Post} {all os : List Oper} {d : Option Nat} {ty : TypeId} {pos : String} {af : Array Edge} {g : Option (Nat × Bool)}
theorem Xv.appc {x y : Operand} {t u e n0 nu size : Nat} {z0 zu : Option (List Value)} {z : List Value} {t0 t1 tu : Nat} {ke ku : Sh} (ht : tk X.B.T t = some ⟨t0, n0, .sl e, z0⟩) (he : tk X.B.T e = some ⟨t1, size, ke, some z⟩) (hu : tk X.B.T u = some ⟨tu, nu, ku, zu⟩) (hn : notI ku = true)
    {b n cap : Nat} {v : Value} {γ k : Nat} {l new : List Value} (hx : ev env x = some (.slice (some ⟨b, 0, none⟩) n (sure cap))) (hy : ev env y = some v) (hr : Rw s b l γ) (hk : lenOfV v = some k) (hv : cellsFrom s size k v = some new) (hl : new.length = k * size) (h1 : ∀ v ∈ new, one v = true) {y0 : Nat} (hV : lkV X.B.V e = some y0) (hro : (5 * (n + k) + 3072) * y0 ≤ 1125899906842624) (hb : n + k ≤ 4611686018427387904) (hc : n + k ≤ cap) (hll : (n + k) * size ≤ l.length) :
    ∃ s', Xv X (.call ⟨.builtin .append, #[x, y], #[t, u]⟩) env s (.slice (some ⟨b, 0, none⟩) (n + k) (sure cap)) s' ∧ Rw s' b (lov l (n * size) new) γ ∧ s'.nx = s.nx ∧ Kp (fun x => x = γ) s s' := by
  obtain ⟨s', a, b1, c1, d1⟩ := appc_ok (P := X.P) (X.B.sz he) (X.B.zr he).2.2.2 hr hk hv hl h1 (X.B.room hV hro hb) hc hll
  refine ⟨s', fun tm hf => ?_, b1, c1, d1⟩
  show xAppend X.P [t, u] (opds tm [x, y]) s = _
  rw [evs_opds hf (xs := [x, y]) (vs := [.slice (some ⟨b, 0, none⟩) n (sure cap), v]) (by unfold evs evs evs; rw [hx, hy])]
  obtain ⟨td, hu1, hu2⟩ := und_notI (X.B.un hu) hn
  have ht1 : X.P.underlying t = some (.slice e) := X.B.un ht
  unfold xAppend
  simp only [ht1, show X.P.underlying u = some td from hu1]
  cases td <;> first | exact a | exact absurd rfl (hu2 _)
theorem Wo.appc {x y : Operand} {t u e n0 nu size : Nat} {z0 zu : Option (List Value)} {z : List Value} {t0 t1 tu : Nat} {ke ku : Sh} (hgd : wantsE all env g = some true) (ht : tk X.B.T t = some ⟨t0, n0, .sl e, z0⟩) (he : tk X.B.T e = some ⟨t1, size, ke, some z⟩) (hu : tk X.B.T u = some ⟨tu, nu, ku, zu⟩) (hn : notI ku = true) (hd : dOk X d = true)
    {b n cap : Nat} {v : Value} {γ k : Nat} {l new : List Value} (hx : ev env x = some (.slice (some ⟨b, 0, none⟩) n (sure cap))) (hy : ev env y = some v) (hr : Rw s b l γ) (hk : lenOfV v = some k) (hv : cellsFrom s size k v = some new) (hl : new.length = k * size) (h1 : ∀ v ∈ new, one v = true) {y0 : Nat} (hV : lkV X.B.V e = some y0) (hro : (5 * (n + k) + 3072) * y0 ≤ 1125899906842624) (hb : n + k ≤ 4611686018427387904) (hc : n + k ≤ cap) (hll : (n + k) * size ≤ l.length)
    (K : ∀ s', Rw s' b (lov l (n * size) new) γ → s'.nx = s.nx → Kp (fun x => x = γ) s s' → Wo X all os (up d (.slice (some ⟨b, 0, none⟩) (n + k) (sure cap)) env) df s' Q) : Wo X all (⟨d, .call ⟨.builtin .append, #[x, y], #[t, u]⟩, ty, pos, af, g⟩ :: os) env df s Q := by
  obtain ⟨s', a, b1, c1, d1⟩ := Xv.appc (X := X) (env := env) ht he hu hn hx hy hr hk hv hl h1 hV hro hb hc hll
  exact Wo.val hgd a hd (K s' b1 c1 d1)
theorem Wd.appc {i m : Nat} {L : List Sp} {past : Past} {x y : Operand} {t u e n0 nu size : Nat} {z0 zu : Option (List Value)} {z : List Value} {t0 t1 tu : Nat} {ke ku : Sh} (hgd : wantsE all env g = some true) (ht : tk X.B.T t = some ⟨t0, n0, .sl e, z0⟩) (he : tk X.B.T e = some ⟨t1, size, ke, some z⟩) (hu : tk X.B.T u = some ⟨tu, nu, ku, zu⟩) (hn : notI ku = true) (hd : dOk X d = true)
    {b n cap : Nat} {v : Value} {γ k : Nat} {l new : List Value} (hx : ev env x = some (.slice (some ⟨b, 0, none⟩) n (sure cap))) (hy : ev env y = some v) (hr : Rw s b l γ) (hk : lenOfV v = some k) (hv : cellsFrom s size k v = some new) (hl : new.length = k * size) (h1 : ∀ v ∈ new, one v = true) {y0 : Nat} (hV : lkV X.B.V e = some y0) (hro : (5 * (n + k) + 3072) * y0 ≤ 1125899906842624) (hb : n + k ≤ 4611686018427387904) (hc : n + k ≤ cap) (hll : (n + k) * size ≤ l.length)
    (K : ∀ s', Rw s' b (lov l (n * size) new) γ → s'.nx = s.nx → Kp (fun x => x = γ) s s' → Wd X all L ((some i, s') :: past) (up d (.slice (some ⟨b, 0, none⟩) (n + k) (sure cap)) env) df s' Q) : Wd X all (.mk .acts i ⟨d, .call ⟨.builtin .append, #[x, y], #[t, u]⟩, ty, pos, af, g⟩ m :: L) past env df s Q := by
  obtain ⟨s', a, b1, c1, d1⟩ := Xv.appc (X := X) (env := env) ht he hu hn hx hy hr hk hv hl h1 hV hro hb hc hll
  exact Wd.act hgd a hd (Nat.le_of_eq c1.symm) (K s' b1 c1 d1)
end
theorem ldq_kn {s s' : St} {p : Option Addr} {v : Value} (h : ldq s p = some v) (w : Wf s) (k : Kn s s') : ldq s' p = some v := by
  unfold ldq at h ⊢
  split at h
  case h_2 => cases h
  rename_i b o
  obtain ⟨hp, nx, gr⟩ := s
  have h' : readOb1 o (hp.get b) = some v := h
  cases hb : hp.get b with
  | none => rw [hb] at h'; cases h'
  | some ob =>
    have := k.kp w b ob hb id
    obtain ⟨hp', nx', gr'⟩ := s'
    have e : hp'.get b = some ob := this
    show readOb1 o (hp'.get b) = some v
    rw [e, ← hb]; exact h'
section
variable {X : Fx} {env : Env} {s : St}
/-- []byte of bytes that were just laid out. -/
theorem Xv.asB {t t0 n e : Nat} {z : Option (List Value)} {t1 n1 : Nat} {z1 : Option (List Value)} {x : Operand} {b o l c γ : Nat} {cs : List Value} (ht : tk X.B.T t = some ⟨t0, n, .sl e, z⟩) (he : tk X.B.T e = some ⟨t1, n1, .it .u8, z1⟩) (hx : ev env x = some (.slice (some ⟨b, o, none⟩) l c)) (w : Wf s) (hr : Rw s b cs γ) :
    ∃ s', Xv X (.convert t t x) env s (.slice (some ⟨b, o, none⟩) l c) s' ∧ Rw s' b cs γ ∧ s'.nx = s.nx ∧ Kp (fun c => c = γ) s s' := by
  obtain ⟨g, h1, h2⟩ := hr
  have hu : X.P.underlying t = some (.slice e) := X.B.un ht
  have hv : X.P.underlying e = some (.int .u8) := X.B.un he
  have xc : ∀ tm, Fits env tm → exec X.P (.convert t t x) tm s = asBytes (some ⟨b, o, none⟩) l c s := fun tm hf => by
    show xConv X.P t t (opd tm x) s = _
    rw [ev_opd hf hx]
    unfold xConv
    simp only [hu, hv, isU8, Nat.beq_refl, Bool.and_true, cond]
  obtain ⟨hp, nx, gr⟩ := s
  have h1' : hp.get b = some (.row cs g) := h1
  by_cases hg : g = 0
  · subst hg
    have h0 : 0 < b := w.pos b cs 0 h1
    have hgb : gr.get b = none := w.zero b cs h1
    have hbn := (w.lt b _ h1).1
    have hG : ∀ k, (gr.set [b] b).get k = if k = b then some [b] else gr.get k := fun k => Tr.get_set _ _ _ (Nat.lt_succ_self _) k
    have hH : ∀ k, (hp.set (.row cs b) b).get k = if k = b then some (.row cs b) else hp.get k := fun k => get_set' _ _ _ _
    have eg : grpOf b b = b := grpOf_pos (by omega)
    refine ⟨.mk (hp.set (.row cs b) b) nx (gr.set [b] b), fun tm hf => ?_, ⟨b, by show (hp.set _ b).get b = _; rw [hH, if_pos rfl], eg.trans h2⟩, rfl, Nat.le_refl _, fun w => ⟨fun k q hk => ?_, fun G ms m q hG' hm hk => ?_, fun k cs' hk => ?_, fun k cs' G hk hG0 => ?_, fun k cs' G hk => ?_, fun G ms hG' => ?_, fun G ms m hG' hm => ?_, w.one⟩, fun _ k q hk hc => ?_⟩
    · rw [xc tm hf]
      unfold asBytes
      simp only [h1', setO_ok, hgb, Option.isNone_none, Bool.and_true, cond]
      rw [show Nat.blt 0 b = true from Nat.ble_eq_true_of_le h0]
      simp only [setG]
      have hn : ∀ t : Tr (List Nat), t.get b ≠ none → (match Tr.casesOn (motive := fun _ => Option St) t none (fun v a b' c d => some (.mk (hp.set (.row cs b) b) nx (.node v a b' c d))) with
        | some s => Re.ok (.val (.slice (some ⟨b, o, none⟩) l c)) s
        | none => .no) = .ok (.val (.slice (some ⟨b, o, none⟩) l c)) (.mk (hp.set (.row cs b) b) nx t) := fun t ht => by
        cases t with
        | nil => exact absurd Tr.get_nil ht
        | node => rfl
      exact hn _ (by rw [hG, if_pos rfl]; exact Option.some_ne_none _)
    · have hk : (hp.set (.row cs b) b).get k = some q := hk
      rw [hH] at hk
      split at hk
      · rename_i e; subst e; cases hk
        exact ⟨hbn, by show grpOf k k < nx; rw [eg]; exact hbn⟩
      · exact w.lt k q hk
    · have hG1 : (gr.set [b] b).get G = some ms := hG'
      have hk1 : (hp.set (.row cs b) b).get m = some q := hk
      clear hG' hk
      rw [hG] at hG1
      rw [hH] at hk1
      split at hG1
      · rename_i e; subst e; cases hG1
        rw [List.mem_singleton.1 hm, if_pos rfl] at hk1
        cases hk1; exact .inr ⟨cs, rfl⟩
      · rename_i e
        split at hk1
        · rename_i e2; subst e2
          rcases w.mem G ms m _ hG1 hm h1 with h | ⟨cs', h⟩
          · cases h
          · cases h; exact absurd (w.glt 0 ms hG1).1 (Nat.lt_irrefl _)
        · exact w.mem G ms m q hG1 hm hk1
    · have hk : (hp.set (.row cs b) b).get k = some (.row cs' 0) := hk
      rw [hH] at hk
      split at hk
      · cases hk; exact absurd h0 (Nat.lt_irrefl _)
      · rename_i e
        show (gr.set [b] b).get k = none
        rw [hG, if_neg e]; exact w.zero k cs' hk
    · have hk : (hp.set (.row cs b) b).get k = some (.row cs' G) := hk
      show ∃ ms, (gr.set [b] b).get G = some ms
      rw [hG]
      split
      · exact ⟨_, rfl⟩
      · rename_i e
        rw [hH] at hk
        split at hk
        · cases hk; exact absurd rfl e
        · exact w.tag k cs' G hk hG0
    · have hk : (hp.set (.row cs b) b).get k = some (.row cs' G) := hk
      rw [hH] at hk
      split at hk
      · rename_i e; subst e; exact h0
      · exact w.pos k cs' G hk
    · have hG' : (gr.set [b] b).get G = some ms := hG'
      rw [hG] at hG'
      split at hG'
      · rename_i e; subst e; exact ⟨h0, hbn⟩
      · exact w.glt G ms hG'
    · have hG' : (gr.set [b] b).get G = some ms := hG'
      rw [hG] at hG'
      split at hG'
      · cases hG'; rw [List.mem_singleton.1 hm]; exact hbn
      · exact w.mlt G ms m hG' hm
    · show (hp.set (.row cs b) b).get k = some q
      rw [hH, if_neg fun e => by subst e; have hk : hp.get k = some q := hk; rw [h1'] at hk; cases hk; exact hc h2]
      exact hk
  · refine ⟨_, fun tm hf => ?_, ⟨g, h1, h2⟩, rfl, .refl⟩
    rw [xc tm hf]
    unfold asBytes
    have e : Nat.beq g 0 = false := by
      cases hq : Nat.beq g 0 with
      | true => exact absurd (Nat.eq_of_beq_eq_true hq) hg
      | false => rfl
    simp only [h1', e, cond]
theorem Wo.asB {Q : Post} {all os : List Oper} {df : List Deferred} {d : Option Nat} {ty : TypeId} {pos : String} {af : Array Edge} {g : Option (Nat × Bool)} {t t0 n e : Nat} {z : Option (List Value)} {t1 n1 : Nat} {z1 : Option (List Value)} {x : Operand} {b o l c γ : Nat} {cs : List Value} (hg : wantsE all env g = some true) (ht : tk X.B.T t = some ⟨t0, n, .sl e, z⟩) (he : tk X.B.T e = some ⟨t1, n1, .it .u8, z1⟩) (hx : ev env x = some (.slice (some ⟨b, o, none⟩) l c)) (hd : dOk X d = true) (w : Wf s) (hr : Rw s b cs γ)
    (K : ∀ s', Rw s' b cs γ → s'.nx = s.nx → Kp (fun c => c = γ) s s' → Wo X all os (up d (.slice (some ⟨b, o, none⟩) l c) env) df s' Q) : Wo X all (⟨d, .convert t t x, ty, pos, af, g⟩ :: os) env df s Q := by
  obtain ⟨s', a, b, c, e⟩ := Xv.asB (X := X) ht he hx w hr
  exact Wo.val hg a hd (K s' b c e)
end
/-- A list from the beginning of a block of its own on, with what lies behind it: L of n, X behind. -/
structure Own (s : St) (v : Value) (A X : List Nat) (γ : Nat) : Prop where
  ex : ∃ b c, v = .slice (some ⟨b, 0, none⟩) A.length c ∧ Rw s b ((A ++ X).map nB) γ ∧ capOf c = A.length + X.length ∧ (capSure c = true → c = sure (capOf c))
  lt : A.length < 2 ^ 60
theorem Own.bs {s : St} {v : Value} {A X : List Nat} {γ : Nat} (h : Own s v A X γ) : BsV s v A := by
  obtain ⟨b, c, h1, h2, _, _⟩ := h.ex
  refine ⟨_, c, h1, ?_, h.lt⟩
  have := (h2.sl (o := 0) (n := A.length) (by simp)).at
  rwa [List.drop_zero, List.map_append, List.take_append_of_le_length (by simp), List.take_of_length_le (by simp)] at this
theorem Own.kp {C : Nat → Prop} {s s' : St} {v : Value} {A X : List Nat} {γ : Nat} (h : Own s v A X γ) (w : Wf s) (k : Kp C s s') (hc : ¬ C γ) : Own s' v A X γ :=
  ⟨let ⟨b, c, h1, h2, h3, h4⟩ := h.ex; ⟨b, c, h1, h2.kp w k hc, h3, h4⟩, h.lt⟩
theorem Own.ltn {s : St} {v : Value} {A X : List Nat} {γ : Nat} (h : Own s v A X γ) (w : Wf s) : γ < s.nx := let ⟨_, _, _, h2, _, _⟩ := h.ex; (h2.lt w).2
end Go.Sy
