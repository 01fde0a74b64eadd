import Derived.Test.YtdffoghdbfddmaaGreatDoorW4zz
/-
  The evaluator over any input: lists by their colours; append.
-/
namespace Go.Sy
open Go Go.Ev
def cellsOb : Ob → Option (List Value)
  | .row l _ => some l
  | .ro l => some l
  | _ => none
/-- Cells that lie in a block of a colour. -/
def Sl (s : St) (q : Option Addr) (cs : List Value) (γ : Nat) : Prop :=
  (cs = [] ∧ (q = none ∨ ∃ b o p, q = some ⟨b, o, some p⟩)) ∨ ∃ b o ob l, q = some ⟨b, o, none⟩ ∧ s.hp.get b = some ob ∧ cellsOb ob = some l ∧ colr b ob = γ ∧ cs.length ≤ (l.drop o).length ∧ (l.drop o).take cs.length = cs
theorem cellsOb_some {ob : Ob} {l : List Value} (h : cellsOb ob = some l) : ob = .ro l ∨ ∃ g, ob = .row l g := by
  cases ob <;> simp only [cellsOb] at h <;> first | (cases h; first | exact .inl rfl | exact .inr ⟨_, rfl⟩) | cases h
theorem Sl.at {s : St} {q : Option Addr} {cs : List Value} {γ : Nat} (h : Sl s q cs γ) : At s q cs := by
  rcases h with h | ⟨b, o, ob, l, rfl, h1, h2, _, h3, h4⟩
  · exact .inl h
  · refine .inr ⟨b, o, rfl, ?_⟩
    rw [readAt_of (l := l) ?_ h3, h4]
    rcases cellsOb_some h2 with rfl | ⟨g, rfl⟩
    · exact .inl h1
    · exact .inr ⟨g, h1⟩
theorem At.sl {s : St} {q : Option Addr} {cs : List Value} (h : At s q cs) : ∃ γ, Sl s q cs γ ∧ (Wf s → γ < s.nx) := by
  rcases h with h | ⟨b, o, rfl, h⟩
  · exact ⟨0, .inl h, fun w => w.one⟩
  · obtain ⟨l, h1, h2, h3⟩ := readAt_some h
    rcases h1 with h1 | ⟨g, h1⟩
    · exact ⟨_, .inr ⟨b, o, _, l, rfl, h1, rfl, rfl, h2, h3.symm⟩, fun w => (w.lt _ _ h1).2⟩
    · exact ⟨_, .inr ⟨b, o, _, l, rfl, h1, rfl, rfl, h2, h3.symm⟩, fun w => (w.lt _ _ h1).2⟩
theorem Sl.kp {C : Nat → Prop} {s s' : St} {q : Option Addr} {cs : List Value} {γ : Nat} (h : Sl s q cs γ) (w : Wf s) (k : Kp C s s') (hc : ¬ C γ) : Sl s' q cs γ := by
  rcases h with h | ⟨b, o, ob, l, rfl, h1, h2, h5, h3, h4⟩
  · exact .inl h
  · exact .inr ⟨b, o, ob, l, rfl, k.kp w b ob h1 (h5 ▸ hc), h2, h5, h3, h4⟩
theorem At.kn {s s' : St} {q : Option Addr} {cs : List Value} (h : At s q cs) (w : Wf s) (k : Kn s s') : At s' q cs := let ⟨_, h, _⟩ := h.sl; (h.kp w k id).at
theorem cells_at {s : St} {q : Option Addr} {cs : List Value} {k size c : Nat} (h : At s q cs) (hl : cs.length = k * size) (hs : 0 < size) : cellsFrom s size k (.slice q k c) = some cs := by
  have hk : cs = [] → k = 0 := fun e => by
    subst e
    rcases Nat.mul_eq_zero.1 (show k * size = 0 from hl.symm) with e | e
    · exact e
    · omega
  rcases h with ⟨rfl, rfl | ⟨b, o, p, rfl⟩⟩ | ⟨b, o, rfl, h⟩
  · rw [hk rfl]; rfl
  · rw [hk rfl]; rfl
  · show readAt s b o (k * size) = _
    rw [← hl]; exact h
theorem Gw.sl {s : St} {q : Option Addr} {n c size : Nat} {cs : List Value} {γ : Nat} (h : Gw s q n c size cs γ) : Sl s q cs γ := by
  rcases h.at' with ⟨rfl, rfl, _⟩ | ⟨b, g, rfl, h1, h2, _⟩
  · refine .inl ⟨List.eq_nil_of_length_eq_zero (by have := h.len; simpa using this), .inl rfl⟩
  · exact .inr ⟨b, 0, _, _, rfl, h1, rfl, h2, by rw [List.drop_zero]; omega, by rw [List.drop_zero, List.take_length]⟩
theorem Gw.kp {C : Nat → Prop} {s s' : St} {q : Option Addr} {n c size : Nat} {cs : List Value} {γ : Nat} (h : Gw s q n c size cs γ) (w : Wf s) (k : Kp C s s') (hc : ¬ C γ) : Gw s' q n c size cs γ :=
  ⟨h.len, h.at'.imp id fun ⟨b, g, h0, h1, h2, h3⟩ => ⟨b, g, h0, k.kp w b _ h1 (by show ¬ C (grpOf g b); rw [h2]; exact hc), h2, h3⟩⟩
theorem Gw.rw {s : St} {q : Option Addr} {n c size : Nat} {cs : List Value} {γ : Nat} (h : Gw s q n c size cs γ) (hn : 0 < n) : ∃ b, q = some ⟨b, 0, none⟩ ∧ (∃ g, s.hp.get b = some (.row cs g) ∧ grpOf g b = γ) ∧ (c = least n size ∨ c = sure n) := by
  rcases h.at' with ⟨_, h, _⟩ | ⟨b, g, h1, h2, h3, h4⟩
  · omega
  · exact ⟨b, h1, ⟨g, h2, h3⟩, h4⟩
theorem Gw.nil {s : St} {size γ : Nat} : Gw s none 0 0 size [] γ := ⟨by simp, .inl ⟨rfl, rfl, rfl⟩⟩
def notI (d : Sh) : Bool := match d with
  | .it _ => false
  | _ => true
theorem und_notI {P : Program} {u : Nat} {d : Sh} (h : shOk P u d) (hd : notI d = true) : ∃ td, P.underlying u = some td ∧ ∀ k, td ≠ .int k := by
  cases d <;> first
    | (cases hd; done)
    | exact ⟨_, h, fun k e => by cases e⟩
    | (obtain ⟨_, h, _⟩ := h; exact ⟨_, h, fun k e => by cases e⟩)
    | (obtain ⟨_, h⟩ := h; exact ⟨_, h, fun k e => by cases e⟩)
    | (obtain ⟨_, _, _, h⟩ := h; exact ⟨_, h, fun k e => by cases e⟩)
theorem someOne_ok {l : List Value} (h : l ≠ []) (h1 : ∀ v ∈ l, one v = true) : someOne l = true := by
  cases l with
  | nil => exact absurd rfl h
  | cons v vs =>
    show (one v && vs.all one) = true
    rw [h1 v List.mem_cons_self, List.all_eq_true.2 fun x hx => h1 x (List.mem_cons_of_mem _ hx)]; rfl
theorem app_ok {P : Program} {s : St} (w : Wf s) {e size : Nat} (hs : sizeOfT P e = some size) (hz : zeroFit P e size = true) (h0 : 0 < size) {q : Option Addr} {n c γ : Nat} {cs : List Value} (hg : Gw s q n c size cs γ) {y : Value} {k : Nat} {new : List Value}
    (hk : lenOfV y = some k) (hy : cellsFrom s size k y = some new) (hl : new.length = k * size) (h1 : ∀ v ∈ new, one v = true) (hle : roomFor P e (n + k) = true) (hb : n + k ≤ 4611686018427387904) :
    ∃ q' c' γ' s', appendV P s e (.slice q n c) y = .ok (.val (.slice q' (n + k) c')) s' ∧ Gw s' q' (n + k) c' size (cs ++ new) γ' ∧ Kp (fun x => x = γ) s s' ∧ (γ' = γ ∨ γ' = s.nx ∧ Kn s s') ∧ /- precise -/ (q = none ∨ c = sure n → 0 < k → γ' = s.nx ∧ Kn s s') := by
  have hlen : (cs ++ new).length = (n + k) * size := by rw [List.length_append, hg.len, hl, Nat.add_mul]
  have e0 : appendV P s e (.slice q n c) y = appendN P s e size q n c (n + k) new := by
    unfold appendV
    simp only [hs, hk, hy, fN_eq]
    rfl
  rw [e0]
  unfold appendN
  rw [hle, hz]
  rcases hg.at' with ⟨rfl, rfl, rfl⟩ | ⟨b, g, rfl, hr, hc, hcap⟩
  · have hcs : cs = [] := List.eq_nil_of_length_eq_zero (by have := hg.len; simpa using this)
    subst hcs
    by_cases hk0 : k = 0
    · subst hk0
      have hn : new = [] := List.eq_nil_of_length_eq_zero (by rw [hl, Nat.zero_mul])
      subst hn
      exact ⟨none, 0, γ, s, rfl, ⟨by simp, .inl ⟨rfl, rfl, rfl⟩⟩, .refl, .inl rfl, fun _ h => by omega⟩
    · refine ⟨some ⟨s.nx, 0, none⟩, least (0 + k) size, s.nx, _, ?_, ⟨hlen, .inr ⟨s.nx, 0, rfl, by rw [List.nil_append]; exact newRow_get, rfl, .inl rfl⟩⟩, newRow_kn.mono fun _ h => h.elim, .inr ⟨rfl, newRow_kn⟩, fun _ _ => ⟨rfl, newRow_kn⟩⟩
      show cond (Nat.beq (0 + k) 0) _ (newLs s new (0 + k) size) = _
      rw [show Nat.beq (0 + k) 0 = false by rw [Nat.zero_add]; cases k with | zero => exact absurd rfl hk0 | succ k => rfl]
      exact newLs_at (by omega)
  · show ∃ q' c' γ' s', appendB s size b 0 n c (n + k) new = _ ∧ _
    have hcn : capOf c = n := by
      rcases hcap with rfl | rfl
      · exact (cap_least (by omega)).1
      · exact cap_sure.1
    unfold appendB
    rw [hcn]
    by_cases hk0 : k = 0
    · subst hk0
      have hn : new = [] := List.eq_nil_of_length_eq_zero (by rw [hl, Nat.zero_mul])
      subst hn
      rw [show Nat.ble (n + 0) n = true from Nat.ble_eq_true_of_le (Nat.le_refl _)]
      exact ⟨some ⟨b, 0, none⟩, c, γ, s, rfl, ⟨hlen, .inr ⟨b, g, rfl, by rw [List.append_nil]; exact hr, hc, hcap⟩⟩, .refl, .inl rfl, fun _ h => by omega⟩
    · rw [show Nat.ble (n + k) n = false by
        cases e : Nat.ble (n + k) n with
        | false => rfl
        | true => have := Nat.le_of_ble_eq_true e; omega]
      have hrd : readAt s b 0 (n * size) = some cs := by
        rw [readAt_of (l := cs) (.inr ⟨g, hr⟩) (by rw [List.drop_zero, hg.len]; omega), List.drop_zero, ← hg.len, List.take_length]
      show ∃ q' c' γ' s', (match readAt s b 0 (n * size) with
        | none => Re.no
        | some old => cond (capSure c) (newLs s (appO old new) (n + k) size)
          (cond (Nat.beq 0 0 && Nat.beq (esOf c) size && someOne new) (match s with
            | .mk hp nx gr => match hp.get b with
              | some (.row _ g) => extend (.mk hp nx gr) b g (n + k) size (n * size) old new
              | _ => .no) .no)) = _ ∧ _
      rw [hrd]
      show ∃ q' c' γ' s', cond (capSure c) (newLs s (appO cs new) (n + k) size) _ = _ ∧ _
      rw [appO_eq]
      rcases hcap with rfl | rfl
      · rw [(cap_least (by omega)).2.1]
        have hne : new ≠ [] := fun e => by
          subst e
          rcases Nat.mul_eq_zero.1 (show k * size = 0 from hl.symm) with e | e <;> omega
        show ∃ q' c' γ' s', cond (Nat.beq 0 0 && Nat.beq (esOf (least n size)) size && someOne new) _ _ = _ ∧ _
        rw [(cap_least (by omega)).2.2, Nat.beq_refl, Nat.beq_refl, someOne_ok hne h1]
        obtain ⟨s', k1, k2, _, k4, _⟩ := extend_ok (need := n + k) (es := size) (new := new) (rest := []) w (by rw [List.append_nil]; exact hr) (by omega)
        refine ⟨some ⟨s.nx, 0, none⟩, least (n + k) size, γ, s', ?_, ⟨hlen, .inr ⟨s.nx, grpOf g b, rfl, k2, ?_, .inl rfl⟩⟩, hc ▸ k4, .inl rfl, fun h _ => ?_⟩
        · obtain ⟨hp, nx, gr⟩ := s
          have hr' : hp.get b = some (.row cs g) := hr
          show (match hp.get b with
              | some (.row _ g) => extend (.mk hp nx gr) b g (n + k) size (n * size) cs new
              | _ => Re.no) = _
          rw [hr', ← hg.len]; exact k1
        · rw [← hc]
          by_cases e : g = 0
          · subst e; show grpOf b s.nx = b; exact grpOf_pos (by have := w.pos b _ _ hr; omega)
          · rw [grpOf_pos e, grpOf_pos e]
        · rcases h with h | h
          · cases h
          · have h1 := (cap_least (n := n) (es := size) (by omega)).2.1
            rw [h, cap_sure.2] at h1; cases h1
      · rw [cap_sure.2]
        exact ⟨some ⟨s.nx, 0, none⟩, least (n + k) size, s.nx, _, newLs_at (by omega), ⟨hlen, .inr ⟨s.nx, 0, rfl, newRow_get, rfl, .inl rfl⟩⟩, newRow_kn.mono fun _ h => h.elim, .inr ⟨rfl, newRow_kn⟩, fun _ _ => ⟨rfl, newRow_kn⟩⟩
section
variable {X : Fx} {env : Env} {df : List Deferred} {s : St} {Q : Post} {all os : List Oper} {d : Option Nat} {ty : TypeId} {pos : String} {af : Array Edge} {g : Option (Nat × Bool)}
/-- append(x, y...) -/
theorem Xv.app {x y : Operand} {t u e n0 nu size : Nat} {z0 zu : Option (List Value)} {z : List Value} {t0 t1 tu : Nat} {ke ku : Sh} (ht : tk X.B.T t = some ⟨t0, n0, .sl e, z0⟩) (he : tk X.B.T e = some ⟨t1, size, ke, some z⟩) (hu : tk X.B.T u = some ⟨tu, nu, ku, zu⟩) (hn : notI ku = true) (h0 : Nat.blt 0 size = true)
    {q : Option Addr} {n c : Nat} {v : Value} {γ k : Nat} {cs new : List Value} (hx : ev env x = some (.slice q n c)) (hy : ev env y = some v) (w : Wf s) (hg : Gw s q n c size cs γ) (hk : lenOfV v = some k) (hv : cellsFrom s size k v = some new) (hl : new.length = k * size) (h1 : ∀ v ∈ new, one v = true) {y0 : Nat} (hV : lkV X.B.V e = some y0) (hr : (5 * (n + k) + 3072) * y0 ≤ 1125899906842624) (hb : n + k ≤ 4611686018427387904) :
    ∃ q' c' γ' s', Xv X (.call ⟨.builtin .append, #[x, y], #[t, u]⟩) env s (.slice q' (n + k) c') s' ∧ Gw s' q' (n + k) c' size (cs ++ new) γ' ∧ Kp (fun x => x = γ) s s' ∧ (γ' = γ ∨ γ' = s.nx ∧ Kn s s') ∧ (q = none ∨ c = sure n → 0 < k → γ' = s.nx ∧ Kn s s') := by
  obtain ⟨q', c', γ', s', a, b, c1, d1, d2⟩ := app_ok w (X.B.sz he) (X.B.zr he).2.2.2 (Nat.le_of_ble_eq_true h0) hg hk hv hl h1 (X.B.room hV hr hb) hb
  refine ⟨q', c', γ', s', fun tm hf => ?_, b, c1, d1, d2⟩
  show xAppend X.P [t, u] (opds tm [x, y]) s = _
  rw [evs_opds hf (xs := [x, y]) (vs := [.slice q n c, v]) (by unfold evs evs evs; rw [hx, hy])]
  obtain ⟨td, hu1, hu2⟩ := und_notI (X.B.un hu) hn
  have ht1 : X.P.underlying t = some (.slice e) := X.B.un ht
  unfold xAppend
  simp only [ht1, show X.P.underlying u = some td from hu1]
  cases td <;> first | exact a | exact absurd rfl (hu2 _)
theorem Wo.app {x y : Operand} {t u e n0 nu size : Nat} {z0 zu : Option (List Value)} {z : List Value} {t0 t1 tu : Nat} {ke ku : Sh} (hgd : wantsE all env g = some true) (ht : tk X.B.T t = some ⟨t0, n0, .sl e, z0⟩) (he : tk X.B.T e = some ⟨t1, size, ke, some z⟩) (hu : tk X.B.T u = some ⟨tu, nu, ku, zu⟩) (hn : notI ku = true) (h0 : Nat.blt 0 size = true) (hd : dOk X d = true)
    {q : Option Addr} {n c : Nat} {v : Value} {γ k : Nat} {cs new : List Value} (hx : ev env x = some (.slice q n c)) (hy : ev env y = some v) (w : Wf s) (hg : Gw s q n c size cs γ) (hk : lenOfV v = some k) (hv : cellsFrom s size k v = some new) (hl : new.length = k * size) (h1 : ∀ v ∈ new, one v = true) {y0 : Nat} (hV : lkV X.B.V e = some y0) (hr : (5 * (n + k) + 3072) * y0 ≤ 1125899906842624) (hb : n + k ≤ 4611686018427387904)
    (K : ∀ q' c' γ' s', Gw s' q' (n + k) c' size (cs ++ new) γ' → Kp (fun x => x = γ) s s' → (γ' = γ ∨ γ' = s.nx ∧ Kn s s') → Wo X all os (up d (.slice q' (n + k) c') env) df s' Q) :
    Wo X all (⟨d, .call ⟨.builtin .append, #[x, y], #[t, u]⟩, ty, pos, af, g⟩ :: os) env df s Q := by
  obtain ⟨q', c', γ', s', a, b, c1, d1, _⟩ := Xv.app (X := X) (env := env) ht he hu hn h0 hx hy w hg hk hv hl h1 hV hr hb
  exact Wo.val hgd a hd (K q' c' γ' s' b c1 d1)
/-- The same, told which colour it has. -/
theorem Wo.appN {x y : Operand} {t u e n0 nu size : Nat} {z0 zu : Option (List Value)} {z : List Value} {t0 t1 tu : Nat} {ke ku : Sh} (hgd : wantsE all env g = some true) (ht : tk X.B.T t = some ⟨t0, n0, .sl e, z0⟩) (he : tk X.B.T e = some ⟨t1, size, ke, some z⟩) (hu : tk X.B.T u = some ⟨tu, nu, ku, zu⟩) (hn : notI ku = true) (h0 : Nat.blt 0 size = true) (hd : dOk X d = true)
    {q : Option Addr} {n c : Nat} {v : Value} {γ k : Nat} {cs new : List Value} (hx : ev env x = some (.slice q n c)) (hy : ev env y = some v) (w : Wf s) (hg : Gw s q n c size cs γ) (hk : lenOfV v = some k) (hv : cellsFrom s size k v = some new) (hl : new.length = k * size) (h1 : ∀ v ∈ new, one v = true) {y0 : Nat} (hV : lkV X.B.V e = some y0) (hr : (5 * (n + k) + 3072) * y0 ≤ 1125899906842624) (hb : n + k ≤ 4611686018427387904) (hq : q = none ∨ c = sure n) (hk0 : 0 < k)
    (K : ∀ q' c' s', Gw s' q' (n + k) c' size (cs ++ new) s.nx → Kn s s' → Wo X all os (up d (.slice q' (n + k) c') env) df s' Q) :
    Wo X all (⟨d, .call ⟨.builtin .append, #[x, y], #[t, u]⟩, ty, pos, af, g⟩ :: os) env df s Q := by
  obtain ⟨q', c', γ', s', a, b, c1, d1, d2⟩ := Xv.app (X := X) (env := env) ht he hu hn h0 hx hy w hg hk hv hl h1 hV hr hb
  obtain ⟨rfl, kn⟩ := d2 hq hk0
  exact Wo.val hgd a hd (K q' c' s' b kn)
/-- append behind an end whose room is not known, by what 'extend' comes to. -/
theorem Wo.apx {x y : Operand} {t u e n0 nu size : Nat} {z0 zu : Option (List Value)} {z : List Value} {t0 t1 tu : Nat} {ke ku : Sh} (hgd : wantsE all env g = some true) (ht : tk X.B.T t = some ⟨t0, n0, .sl e, z0⟩) (he : tk X.B.T e = some ⟨t1, size, ke, some z⟩) (hu : tk X.B.T u = some ⟨tu, nu, ku, zu⟩) (hn : notI ku = true) (hd : dOk X d = true)
    {b n : Nat} {v r : Value} {g' k : Nat} {cs new : List Value} {s' : St} (hx : ev env x = some (.slice (some ⟨b, 0, none⟩) n (least n size))) (hy : ev env y = some v) (hr : s.hp.get b = some (.row cs g')) (hcs : cs.length = n * size) (hk : lenOfV v = some k) (hv : cellsFrom s size k v = some new) (hne : new ≠ []) (h1 : ∀ v ∈ new, one v = true) (hk0 : 0 < k) {y0 : Nat} (hV : lkV X.B.V e = some y0) (hro : (5 * (n + k) + 3072) * y0 ≤ 1125899906842624) (hb : n + k ≤ 4611686018427387904)
    (hx' : extend s b g' (n + k) size cs.length cs new = .ok (.val r) s') (K : Wo X all os (up d r env) df s' Q) :
    Wo X all (⟨d, .call ⟨.builtin .append, #[x, y], #[t, u]⟩, ty, pos, af, g⟩ :: os) env df s Q := by
  refine Wo.val hgd (fun tm hf => ?_) hd K
  show xAppend X.P [t, u] (opds tm [x, y]) s = _
  rw [evs_opds hf (xs := [x, y]) (vs := [.slice (some ⟨b, 0, none⟩) n (least n size), v]) (by unfold evs evs evs; rw [hx, hy])]
  obtain ⟨td, hu1, hu2⟩ := und_notI (X.B.un hu) hn
  have ht1 : X.P.underlying t = some (.slice e) := X.B.un ht
  have a : appendV X.P s e (.slice (some ⟨b, 0, none⟩) n (least n size)) v = .ok (.val r) s' := by
    have e0 : appendV X.P s e (.slice (some ⟨b, 0, none⟩) n (least n size)) v = appendN X.P s e size (some ⟨b, 0, none⟩) n (least n size) (n + k) new := by
      unfold appendV
      simp only [show sizeOfT X.P e = some size from X.B.sz he, hk, hv, fN_eq]
      rfl
    rw [e0]
    unfold appendN
    rw [show roomFor X.P e (n + k) = true from X.B.room hV hro hb, show zeroFit X.P e size = true from (X.B.zr he).2.2.2]
    show appendB s size b 0 n (least n size) (n + k) new = _
    unfold appendB
    rw [(cap_least (by omega)).1, show Nat.ble (n + k) n = false by
      cases e : Nat.ble (n + k) n with
      | false => rfl
      | true => have := Nat.le_of_ble_eq_true e; omega]
    have hrd : readAt s b 0 (n * size) = some cs := by
      rw [readAt_of (l := cs) (.inr ⟨g', hr⟩) (by rw [List.drop_zero, hcs]; omega), List.drop_zero, ← hcs, List.take_length]
    show (match readAt s b 0 (n * size) with
        | none => Re.no
        | some old => cond (capSure (least n size)) (newLs s (appO old new) (n + k) size)
          (cond (Nat.beq 0 0 && Nat.beq (esOf (least n size)) size && someOne new) (match s with
            | .mk hp nx gr => match hp.get b with
              | some (.row _ g) => extend (.mk hp nx gr) b g (n + k) size (n * size) old new
              | _ => .no) .no)) = _
    rw [hrd]
    show cond (capSure (least n size)) _ (cond (Nat.beq 0 0 && Nat.beq (esOf (least n size)) size && someOne new) _ _) = _
    rw [(cap_least (by omega)).2.1, (cap_least (by omega)).2.2, Nat.beq_refl, Nat.beq_refl, someOne_ok hne h1]
    obtain ⟨hp, nx, gr⟩ := s
    have hr' : hp.get b = some (.row cs g') := hr
    show (match hp.get b with
        | some (.row _ g) => extend (.mk hp nx gr) b g (n + k) size (n * size) cs new
        | _ => Re.no) = _
    rw [hr', ← hcs]; exact hx'
  unfold xAppend
  simp only [ht1, show X.P.underlying u = some td from hu1]
  cases td <;> first | exact a | exact absurd rfl (hu2 _)
end
end Go.Sy
