import Derived.Test.YtdffoghdbfddmaaGreatDoorWanzz
/-
  The evaluator over any input: appends to what may be nil; lists that were handed out.
-/
namespace Go.Sy
open Go Go.Ev
section
variable {X : Fx} {env : Env} {df : List Deferred} {s : St} {Q : Post} {all os : List Oper} {d : Option Nat} {ty : TypeId} {pos : String} {af : Array Edge} {g : Option (Nat × Bool)}
theorem Gw.any {s s' : St} {q : Option Addr} {n c size γ γ' : Nat} {cs : List Value} (h : Gw s q n c size cs γ) (hq : q = none) : Gw s' q n c size cs γ' := by
  rcases h.at' with e | ⟨b, g, e, _⟩
  · exact ⟨h.len, .inl e⟩
  · rw [hq] at e; cases e
theorem Gw.keep {C : Nat → Prop} {s s' : St} {q : Option Addr} {n c size γ : Nat} {cs : List Value} (h : Gw s q n c size cs γ) (w : Wf s) (k : Kp C s s') (hc : q ≠ none → ¬ C γ) : Gw s' q n c size cs γ := by
  by_cases hq : q = none
  · exact h.any hq
  · exact h.kp w k (hc hq)
theorem Gw.ltn {s : St} {q : Option Addr} {n c size γ : Nat} {cs : List Value} (h : Gw s q n c size cs γ) (w : Wf s) (hq : q ≠ none) : γ < s.nx := by
  rcases h.at' with e | ⟨b, g, _, h1, h2, _⟩
  · exact absurd e.1 hq
  · rw [← h2]; exact (w.lt b _ h1).2
theorem Xv.app2 {x y : Operand} {t u e n0 nu size : Nat} {z0 zu : Option (List Value)} {z : List Value} {t0 t1 tu : Nat} {ke ku : Sh} (ht : tk X.B.T t = some ⟨t0, n0, .sl e, z0⟩) (he : tk X.B.T e = some ⟨t1, size, ke, some z⟩) (hu : tk X.B.T u = some ⟨tu, nu, ku, zu⟩) (hn : notI ku = true) (h0 : Nat.blt 0 size = true)
    {q : Option Addr} {n c : Nat} {v : Value} {γ k : Nat} {cs new : List Value} (hx : ev env x = some (.slice q n c)) (hy : ev env y = some v) (w : Wf s) (hg : Gw s q n c size cs γ) (hk : lenOfV v = some k) (hv : cellsFrom s size k v = some new) (hl : new.length = k * size) (h1 : ∀ v ∈ new, one v = true) {y0 : Nat} (hV : lkV X.B.V e = some y0) (hr : (5 * (n + k) + 3072) * y0 ≤ 1125899906842624) (hb : n + k ≤ 4611686018427387904) :
    ∃ q' c' γ' s', Xv X (.call ⟨.builtin .append, #[x, y], #[t, u]⟩) env s (.slice q' (n + k) c') s' ∧ Gw s' q' (n + k) c' size (cs ++ new) γ' ∧ Kp (fun c => q ≠ none ∧ c = γ) s s' ∧ ((q ≠ none ∧ γ' = γ) ∨ γ' = s.nx) := by
  by_cases hq : q = none
  · obtain ⟨q', c', γ', s', a, b, k1, k2, _⟩ := Xv.app (X := X) (env := env) ht he hu hn h0 hx hy w (hg.any (s' := s) (γ' := s.nx) hq) hk hv hl h1 hV hr hb
    refine ⟨q', c', γ', s', a, b, (Kp.new (N := s.nx) .refl (k1.mono fun c e => Nat.le_of_eq e.symm) (Nat.le_refl _)).mono fun _ e => e.elim, .inr ?_⟩
    rcases k2 with k2 | ⟨k2, _⟩ <;> exact k2
  · obtain ⟨q', c', γ', s', a, b, k1, k2, _⟩ := Xv.app (X := X) (env := env) ht he hu hn h0 hx hy w hg hk hv hl h1 hV hr hb
    refine ⟨q', c', γ', s', a, b, k1.mono fun c e => ⟨hq, e⟩, ?_⟩
    rcases k2 with k2 | ⟨k2, _⟩
    · exact .inl ⟨hq, k2⟩
    · exact .inr k2
theorem Wo.app2 {x y : Operand} {t u e n0 nu size : Nat} {z0 zu : Option (List Value)} {z : List Value} {t0 t1 tu : Nat} {ke ku : Sh} (hgd : wantsE all env g = some true) (ht : tk X.B.T t = some ⟨t0, n0, .sl e, z0⟩) (he : tk X.B.T e = some ⟨t1, size, ke, some z⟩) (hu : tk X.B.T u = some ⟨tu, nu, ku, zu⟩) (hn : notI ku = true) (h0 : Nat.blt 0 size = true) (hd : dOk X d = true)
    {q : Option Addr} {n c : Nat} {v : Value} {γ k : Nat} {cs new : List Value} (hx : ev env x = some (.slice q n c)) (hy : ev env y = some v) (w : Wf s) (hg : Gw s q n c size cs γ) (hk : lenOfV v = some k) (hv : cellsFrom s size k v = some new) (hl : new.length = k * size) (h1 : ∀ v ∈ new, one v = true) {y0 : Nat} (hV : lkV X.B.V e = some y0) (hr : (5 * (n + k) + 3072) * y0 ≤ 1125899906842624) (hb : n + k ≤ 4611686018427387904)
    (K : ∀ q' c' γ' s', Gw s' q' (n + k) c' size (cs ++ new) γ' → Kp (fun c => q ≠ none ∧ c = γ) s s' → ((q ≠ none ∧ γ' = γ) ∨ γ' = s.nx) → Wo X all os (up d (.slice q' (n + k) c') env) df s' Q) :
    Wo X all (⟨d, .call ⟨.builtin .append, #[x, y], #[t, u]⟩, ty, pos, af, g⟩ :: os) env df s Q := by
  obtain ⟨q', c', γ', s', a, b, c1, d1⟩ := Xv.app2 (X := X) (env := env) ht he hu hn h0 hx hy w hg hk hv hl h1 hV hr hb
  exact Wo.val hgd a hd (K q' c' γ' s' b c1 d1)
theorem Wd.app2 {i m : Nat} {L : List Sp} {past : Past} {x y : Operand} {t u e n0 nu size : Nat} {z0 zu : Option (List Value)} {z : List Value} {t0 t1 tu : Nat} {ke ku : Sh} (hgd : wantsE all env g = some true) (ht : tk X.B.T t = some ⟨t0, n0, .sl e, z0⟩) (he : tk X.B.T e = some ⟨t1, size, ke, some z⟩) (hu : tk X.B.T u = some ⟨tu, nu, ku, zu⟩) (hn : notI ku = true) (h0 : Nat.blt 0 size = true) (hd : dOk X d = true)
    {q : Option Addr} {n c : Nat} {v : Value} {γ k : Nat} {cs new : List Value} (hx : ev env x = some (.slice q n c)) (hy : ev env y = some v) (w : Wf s) (hg : Gw s q n c size cs γ) (hk : lenOfV v = some k) (hv : cellsFrom s size k v = some new) (hl : new.length = k * size) (h1 : ∀ v ∈ new, one v = true) {y0 : Nat} (hV : lkV X.B.V e = some y0) (hr : (5 * (n + k) + 3072) * y0 ≤ 1125899906842624) (hb : n + k ≤ 4611686018427387904)
    (K : ∀ q' c' γ' s', Gw s' q' (n + k) c' size (cs ++ new) γ' → Kp (fun c => q ≠ none ∧ c = γ) s s' → ((q ≠ none ∧ γ' = γ) ∨ γ' = s.nx) → Wd X all L ((some i, s') :: past) (up d (.slice q' (n + k) c') env) df s' Q) :
    Wd X all (.mk .acts i ⟨d, .call ⟨.builtin .append, #[x, y], #[t, u]⟩, ty, pos, af, g⟩ m :: L) past env df s Q := by
  obtain ⟨q', c', γ', s', a, b, c1, d1⟩ := Xv.app2 (X := X) (env := env) ht he hu hn h0 hx hy w hg hk hv hl h1 hV hr hb
  exact Wd.act hgd a hd c1.le (K q' c' γ' s' b c1 d1)
end
/-- A list of bytes that was handed out: its cell, its colour, what it is. -/
structure Ce where
  q : Option Addr
  c : Nat
  γ : Nat
  A : List Nat
def Ce.v (x : Ce) : Value := .slice x.q x.A.length x.c
structure CeOk (s : St) (lo : Nat) (x : Ce) : Prop where
  gw : Gw s x.q x.A.length x.c 1 (x.A.map nB) x.γ
  lo : x.q ≠ none → lo ≤ x.γ
  sm : x.A.length < 2 ^ 47
/-- Such lists, no room shared. -/
structure Fc (s : St) (lo : Nat) (l : List Ce) : Prop where
  ok : ∀ x ∈ l, CeOk s lo x
  pw : l.Pairwise fun x y => x.q ≠ none → y.q ≠ none → x.γ ≠ y.γ
theorem CeOk.bs {s : St} {lo : Nat} {x : Ce} (h : CeOk s lo x) : BsV s x.v x.A := ⟨x.q, x.c, rfl, h.gw.sl.at, by have := h.sm; omega⟩
theorem Fc.nil {s : St} {lo : Nat} : Fc s lo [] := ⟨by simp, .nil⟩
theorem Fc.kp {C : Nat → Prop} {s s' : St} {lo : Nat} {l : List Ce} (h : Fc s lo l) (w : Wf s) (k : Kp C s s') (hc : ∀ x ∈ l, x.q ≠ none → ¬ C x.γ) : Fc s' lo l :=
  ⟨fun x hx => ⟨(h.ok x hx).gw.keep w k (hc x hx), (h.ok x hx).lo, (h.ok x hx).sm⟩, h.pw⟩
theorem Fc.lt {s : St} {lo : Nat} {l : List Ce} (h : Fc s lo l) (w : Wf s) {x : Ce} (hx : x ∈ l) (hq : x.q ≠ none) : x.γ < s.nx := (h.ok x hx).gw.ltn w hq
theorem Fc.app {s : St} {lo lo' : Nat} {l m : List Ce} (h : Fc s lo l) (k : Fc s lo' m) (hl : lo ≤ lo') (hx : ∀ x ∈ l, ∀ y ∈ m, x.q ≠ none → y.q ≠ none → x.γ ≠ y.γ) : Fc s lo (l ++ m) :=
  ⟨fun x hm => by
    rcases List.mem_append.1 hm with hm | hm
    · exact h.ok x hm
    · exact ⟨(k.ok x hm).gw, fun hq => Nat.le_trans hl ((k.ok x hm).lo hq), (k.ok x hm).sm⟩, List.pairwise_append.2 ⟨h.pw, k.pw, hx⟩⟩
theorem Fc.sub {s : St} {lo : Nat} {l m : List Ce} (h : Fc s lo l) (k : m.Sublist l) : Fc s lo m := ⟨fun x hx => h.ok x (k.subset hx), h.pw.sublist k⟩
/-- Entries of such lists. -/
abbrev EC := List (Ce × Ce)
def efl (M : EC) : List Ce := M.flatMap fun p => [p.1, p.2]
def ecs (M : EC) : List Value := M.flatMap fun p => [p.1.v, p.2.v]
def ect (M : EC) : List Ety := M.map fun p => (p.1.A, p.2.A)
theorem efl_app {M N : EC} : efl (M ++ N) = efl M ++ efl N := List.flatMap_append
theorem ecs_app {M N : EC} : ecs (M ++ N) = ecs M ++ ecs N := List.flatMap_append
theorem ect_app {M N : EC} : ect (M ++ N) = ect M ++ ect N := List.map_append
theorem ect_length {M : EC} : (ect M).length = M.length := List.length_map _
theorem ecs_length : ∀ M : EC, (ecs M).length = M.length * 2
  | [] => rfl
  | p :: M => by
    show ([p.1.v, p.2.v] ++ ecs M).length = _
    simp only [List.length_append, ecs_length M, List.length_cons, List.length_nil]; omega
theorem ecs_one : ∀ {M : EC}, ∀ v ∈ ecs M, one v = true
  | M, v, hv => by
    obtain ⟨p, _, h⟩ := List.mem_flatMap.1 hv
    simp only [List.mem_cons, List.not_mem_nil, or_false] at h
    rcases h with rfl | rfl <;> rfl
theorem ecs_ent {s : St} {lo : Nat} : ∀ {M : EC}, (∀ x ∈ efl M, CeOk s lo x) → Ent s (ecs M) (ect M)
  | [], _ => trivial
  | p :: M, h => ⟨(h p.1 (by simp [efl])).bs, (h p.2 (by simp [efl])).bs, ecs_ent fun x hx => h x (by
      have : efl (p :: M) = [p.1, p.2] ++ efl M := rfl
      rw [this]; exact List.mem_append_right _ hx)⟩
theorem ecs_map {M : EC} : ecs M = (efl M).map Ce.v := by unfold ecs efl; rw [List.map_flatMap]; rfl
/-- A list of entries that a call handed out: all of it lies in new memory. -/
structure Res (lo : Nat) (s : St) (q : Option Addr) (n c : Nat) (γ : Nat) (M : EC) : Prop where
  gw : Gw s q n c 2 (ecs M) γ
  fc : Fc s lo (efl M)
  lo : q ≠ none → lo ≤ γ
  ne : ∀ x ∈ efl M, x.q ≠ none → q ≠ none → x.γ ≠ γ
theorem Res.len {lo : Nat} {s : St} {q : Option Addr} {n c γ : Nat} {M : EC} (h : Res lo s q n c γ M) : M.length = n := by
  have := h.gw.len
  rw [ecs_length] at this
  omega
theorem Res.ent {lo : Nat} {s : St} {q : Option Addr} {n c γ : Nat} {M : EC} (h : Res lo s q n c γ M) : Ent s (ecs M) (ect M) := ecs_ent h.fc.ok
theorem Res.kp {C : Nat → Prop} {lo : Nat} {s s' : St} {q : Option Addr} {n c γ : Nat} {M : EC} (h : Res lo s q n c γ M) (w : Wf s) (k : Kp C s s') (hc : ∀ c, lo ≤ c → ¬ C c) : Res lo s' q n c γ M :=
  ⟨h.gw.keep w k fun hq => hc _ (h.lo hq), h.fc.kp w k fun x hx hq => hc _ ((h.fc.ok x hx).lo hq), h.lo, h.ne⟩
theorem Res.kn {lo : Nat} {s s' : St} {q : Option Addr} {n c γ : Nat} {M : EC} (h : Res lo s q n c γ M) (w : Wf s) (k : Kn s s') : Res lo s' q n c γ M := h.kp w k fun _ _ => id
theorem Res.at {lo : Nat} {s : St} {q : Option Addr} {n c γ : Nat} {M : EC} (h : Res lo s q n c γ M) : At s q (ecs M) := h.gw.sl.at
/-- Less may be kept of another row. -/
theorem Dt.kpc {C : Nat → Prop} {s0 s s' : St} {b γ : Nat} {l : List El} (h : Dt s0 s b l γ) (k : Kp C s s') (hc : ∀ c, C c → s0.nx ≤ c) (hg : ¬ C γ) : Dt s0 s' b l γ := ⟨h.w0, h.kp.trans (k.mono hc), h.rw.kp h.wf k hg, h.ge, h.ks⟩
end Go.Sy
/-
  The evaluator over any input: differences.
-/
namespace Go.Sy
open Go Go.Ev
/-- A difference. -/
structure Dv where
  K : List Nat
  O : List Nat
  V : List Nat
  was : Bool
  is : Bool
/-- Its cells, and what they are. -/
structure Dl where
  k : Value
  o : Value
  v : Value
  x : Dv
def Dl.cs (d : Dl) : List Value := [d.k, d.o, d.v, .bool d.x.was, .bool d.x.is]
def dcs (l : List Dl) : List Value := l.flatMap Dl.cs
def dxs (l : List Dl) : List Dv := l.map Dl.x
structure DlOk (s : St) (d : Dl) : Prop where
  k : BsV s d.k d.x.K
  o : BsV s d.o d.x.O
  v : BsV s d.v d.x.V
theorem dcs_app {l m : List Dl} : dcs (l ++ m) = dcs l ++ dcs m := List.flatMap_append
theorem dxs_app {l m : List Dl} : dxs (l ++ m) = dxs l ++ dxs m := List.map_append
theorem dcs_length : ∀ l : List Dl, (dcs l).length = l.length * 5
  | [] => rfl
  | x :: l => by
    show (Dl.cs x ++ dcs l).length = _
    rw [List.length_append, dcs_length l, List.length_cons, Nat.succ_mul]; show 5 + _ = _; omega
theorem dcs_get : ∀ {l : List Dl} {i : Nat} {x : Dl}, l[i]? = some x → ((dcs l).drop (i * 5)).take 5 = x.cs
  | [], i, x, h => by simp at h
  | y :: l, 0, x, h => by cases h; rfl
  | y :: l, i + 1, x, h => by
    show ((y.k :: y.o :: y.v :: _ :: _ :: dcs l).drop _).take 5 = _
    rw [show (i + 1) * 5 = i * 5 + 1 + 1 + 1 + 1 + 1 by omega, List.drop_succ_cons, List.drop_succ_cons, List.drop_succ_cons, List.drop_succ_cons, List.drop_succ_cons]; exact dcs_get (l := l) h
theorem DlOk.kn {s s' : St} {d : Dl} (h : DlOk s d) (w : Wf s) (k : Kn s s') : DlOk s' d := ⟨h.k.kn w k, h.o.kn w k, h.v.kn w k⟩
theorem DlOk.kpN {s s' : St} {d : Dl} (h : DlOk s d) (w : Wf s) (k : Kp (fun c => s.nx ≤ c) s s') : DlOk s' d := ⟨h.k.kpN w k, h.o.kpN w k, h.v.kpN w k⟩
theorem DlOk.one {s : St} {d : Dl} (h : DlOk s d) : ∀ v ∈ d.cs, one v = true := fun v hv => by
  obtain ⟨q1, c1, e1⟩ := h.k.slc
  obtain ⟨q2, c2, e2⟩ := h.o.slc
  obtain ⟨q3, c3, e3⟩ := h.v.slc
  unfold Dl.cs at hv
  rw [e1, e2, e3] at hv
  simp only [List.mem_cons, List.not_mem_nil, or_false] at hv
  rcases hv with rfl | rfl | rfl | rfl | rfl <;> rfl
/-- One difference's cells, as they are loaded. -/
theorem dl_ld {s : St} {q : Option Addr} {l : List Dl} {i : Nat} {d : Dl} (ha : At s q (dcs l)) (hk : ∀ x ∈ l, DlOk s x) (h : l[i]? = some d) :
    ∃ q1 c1 q2 c2 q3 c3, (d.k = .slice q1 d.x.K.length c1 ∧ d.o = .slice q2 d.x.O.length c2 ∧ d.v = .slice q3 d.x.V.length c3) ∧ good q ∧ ldn s (qadd q (i * 5)) 5 = some [.slice q1 d.x.K.length c1, .slice q2 d.x.O.length c2, .slice q3 d.x.V.length c3, .bool d.x.was, .bool d.x.is] ∧
      (ldq s (qadd (qadd q (i * 5)) 0) = some (.slice q1 d.x.K.length c1) ∧ ldq s (qadd (qadd q (i * 5)) 1) = some (.slice q2 d.x.O.length c2) ∧ ldq s (qadd (qadd q (i * 5)) 2) = some (.slice q3 d.x.V.length c3) ∧ ldq s (qadd (qadd q (i * 5)) 3) = some (.bool d.x.was) ∧ ldq s (qadd (qadd q (i * 5)) 4) = some (.bool d.x.is)) ∧
      Bs s q1 d.x.K ∧ Bs s q2 d.x.O ∧ Bs s q3 d.x.V := by
  have hi : i < l.length := (List.getElem?_eq_some_iff.1 h).1
  have hl := dcs_length l
  obtain ⟨⟨q1, c1, e1, b1, l1⟩, ⟨q2, c2, e2, b2, l2⟩, ⟨q3, c3, e3, b3, l3⟩⟩ := hk d (List.mem_of_getElem? h)
  have hcs : d.cs = [.slice q1 d.x.K.length c1, .slice q2 d.x.O.length c2, .slice q3 d.x.V.length c3, .bool d.x.was, .bool d.x.is] := by unfold Dl.cs; rw [e1, e2, e3]
  have hg := dcs_get h
  rw [hcs] at hg
  have hc : ∀ j, j < 5 → (dcs l)[i * 5 + j]? = [Value.slice q1 d.x.K.length c1, .slice q2 d.x.O.length c2, .slice q3 d.x.V.length c3, .bool d.x.was, .bool d.x.is][j]? := fun j hj => by rw [← hg, List.getElem?_take_of_lt hj, List.getElem?_drop]
  have ld : ∀ j, j < 5 → ldq s (qadd (qadd q (i * 5)) j) = [Value.slice q1 d.x.K.length c1, .slice q2 d.x.O.length c2, .slice q3 d.x.V.length c3, .bool d.x.was, .bool d.x.is][j]? := fun j hj => by
    rw [qadd_qadd, At.ld ha (i := i * 5 + j) (by omega), ← List.getElem?_eq_getElem]; exact hc j hj
  exact ⟨q1, c1, q2, c2, q3, c3, ⟨e1, e2, e3⟩, At.good ha (i := i * 5) (by omega), by rw [At.ldn ha (by omega) (by decide), hg], ⟨ld 0 (by decide), ld 1 (by decide), ld 2 (by decide), ld 3 (by decide), ld 4 (by decide)⟩, b1, b2, b3⟩
/-- Five cells of a block of their own, as they are loaded. -/
theorem loc5 {s : St} {b γ : Nat} {a0 a1 a2 a3 a4 : Value} (h : Rw s b [a0, a1, a2, a3, a4] γ) :
    good (some (⟨b, 0, none⟩ : Addr)) ∧ ldq s (qadd (some ⟨b, 0, none⟩) 0) = some a0 ∧ ldq s (qadd (some ⟨b, 0, none⟩) 1) = some a1 ∧ ldq s (qadd (some ⟨b, 0, none⟩) 2) = some a2 ∧ ldq s (qadd (some ⟨b, 0, none⟩) 3) = some a3 ∧ ldq s (qadd (some ⟨b, 0, none⟩) 4) = some a4 := by
  have A : At s (some ⟨b, 0, none⟩) [a0, a1, a2, a3, a4] := by have := (h.sl (o := 0) (n := 5) (by simp)).at; exact this
  exact ⟨⟨_, _, rfl⟩, At.ld A (i := 0) (by simp), At.ld A (i := 1) (by simp), At.ld A (i := 2) (by simp), At.ld A (i := 3) (by simp), At.ld A (i := 4) (by simp)⟩
/-- Three cells of a block of their own, as they are loaded. -/
theorem loc3 {s : St} {b γ : Nat} {a0 a1 a2 : Value} (h : Rw s b [a0, a1, a2] γ) : ldn s (some ⟨b, 0, none⟩) 3 = some [a0, a1, a2] := by
  have A : At s (some ⟨b, 0, none⟩) [a0, a1, a2] := by have := (h.sl (o := 0) (n := 3) (by simp)).at; exact this
  exact A.ldn (i := 0) (n := 3) (by simp) (by decide)
/-- A list that a call lays in new memory: cells, and the lists in them, no room shared. -/
structure Rg (sz lo : Nat) (s : St) (q : Option Addr) (n c γ : Nat) (cs : List Value) (fl : List Ce) : Prop where
  gw : Gw s q n c sz cs γ
  fc : Fc s lo fl
  lo : q ≠ none → lo ≤ γ
  ne : ∀ x ∈ fl, x.q ≠ none → q ≠ none → x.γ ≠ γ
section
variable {sz lo : Nat} {s s' : St} {q : Option Addr} {n c γ : Nat} {cs : List Value} {fl : List Ce}
theorem Rg.nil : Rg sz lo s none 0 0 0 [] [] := ⟨⟨by simp, .inl ⟨rfl, rfl, rfl⟩⟩, .nil, fun h => absurd rfl h, by simp⟩
theorem Rg.kn (h : Rg sz lo s q n c γ cs fl) (w : Wf s) (k : Kn s s') : Rg sz lo s' q n c γ cs fl := ⟨h.gw.keep w k fun _ => id, h.fc.kp w k fun _ _ _ => id, h.lo, h.ne⟩
theorem Rg.kpN (h : Rg sz lo s q n c γ cs fl) (w : Wf s) (k : Kp (fun c => s.nx ≤ c) s s') : Rg sz lo s' q n c γ cs fl :=
  ⟨h.gw.keep w k fun hq => by have := h.gw.ltn w hq; omega, h.fc.kp w k fun x hx hq => by have := h.fc.lt w hx hq; omega, h.lo, h.ne⟩
theorem Rg.at (h : Rg sz lo s q n c γ cs fl) : At s q cs := h.gw.sl.at
/-- One round: new lists came, then cells were appended. -/
theorem Rg.step {s1 s2 s3 : St} {q' : Option Addr} {n' c' γ' : Nat} {cn : List Value} {new : List Ce} (h : Rg sz lo s q n c γ cs fl) (w : Wf s) (hlo : lo ≤ s.nx) (k : Kn s s1) (hF : Fc s1 s.nx new) (hs2 : Kn s1 s2) (h2 : s1.nx ≤ s2.nx) (_hN : ∀ x ∈ new, x.q ≠ none → x.γ < s1.nx)
    (G : Gw s3 q' n' c' sz (cs ++ cn) γ') (K : Kp (fun c => q ≠ none ∧ c = γ) s2 s3) (hγ : (q ≠ none ∧ γ' = γ) ∨ γ' = s2.nx) : Rg sz lo s3 q' n' c' γ' (cs ++ cn) (fl ++ new) := by
  have w1 := k.wf w
  have w2 := hs2.wf w1
  have kle := k.le
  have hlt : ∀ x ∈ fl, x.q ≠ none → x.γ < s.nx := fun x hx hq => h.fc.lt w hx hq
  have F1 : Fc s1 lo (fl ++ new) := (h.fc.kp w k fun _ _ _ => id).app hF (by omega) fun x hx y hy a b => by
    have := hlt x hx a
    have := (hF.ok y hy).lo b
    omega
  have hne : ∀ x ∈ fl ++ new, x.q ≠ none → q ≠ none → x.γ ≠ γ := fun x hx a b => by
    rcases List.mem_append.1 hx with hx | hx
    · exact h.ne x hx a b
    · have := (hF.ok x hx).lo a
      have := h.gw.ltn w b
      omega
  have hall : ∀ x ∈ fl ++ new, x.q ≠ none → x.γ < s1.nx := fun x hx a => F1.lt w1 hx a
  refine ⟨G, (F1.kp w1 hs2 fun _ _ _ => id).kp w2 K fun x hx a b => hne x hx a b.1 b.2, fun _ => ?_, fun x hx a _ => ?_⟩
  · rcases hγ with ⟨a, b⟩ | b
    · rw [b]; exact h.lo a
    · omega
  · rcases hγ with ⟨e, b⟩ | b
    · rw [b]; exact hne x hx a e
    · have := hall x hx a; omega
/-- What such a round leaves of what was. -/
theorem Rg.keep {s0 s1 s2 s3 : St} (h : Rg sz s0.nx s q n c γ cs fl) (k0 : Kn s0 s) (k : Kn s s1) (hs2 : Kn s1 s2) (K : Kp (fun c => q ≠ none ∧ c = γ) s2 s3) : Kn s0 s3 :=
  Kp.new ((k0.trans k).trans hs2) (K.mono fun c e => by rw [e.2]; exact h.lo e.1) (Nat.le_refl _)
end
end Go.Sy
