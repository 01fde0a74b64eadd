import Derived.Test.YtmdodfnealkpdaaDoorWanzz
/-
  The evaluator over any input: appends to what may be nil; lists that were handed out.
-/
namespace Go.Sy
open Go Go.Ev
section
variable {X : Fx} {env : Env} {df : List Deferred} {s : St} {Q : Post} {all os : List Oper} {d : Option Nat} {ty : TypeId} {pos : String} {af : Array Edge} {g : Option (Nat × Bool)}
theorem Gw.any {s s' : St} {q : Option Addr} {n c size γ γ' : Nat} {cs : List Value} (h : Gw s q n c size cs γ) (hq : q = none) : Gw s' q n c size cs γ' := by
  rcases h.at' with e | ⟨b, g, e, _⟩
  · exact ⟨h.len, .inl e⟩
  · rw [hq] at e; cases e
theorem Gw.keep {C : Nat → Prop} {s s' : St} {q : Option Addr} {n c size γ : Nat} {cs : List Value} (h : Gw s q n c size cs γ) (w : Wf s) (k : Kp C s s') (hc : q ≠ none → ¬ C γ) : Gw s' q n c size cs γ := by
  by_cases hq : q = none
  · exact h.any hq
  · exact h.kp w k (hc hq)
theorem Gw.ltn {s : St} {q : Option Addr} {n c size γ : Nat} {cs : List Value} (h : Gw s q n c size cs γ) (w : Wf s) (hq : q ≠ none) : γ < s.nx := by
  rcases h.at' with e | ⟨b, g, _, h1, h2, _⟩
  · exact absurd e.1 hq
  · rw [← h2]; exact (w.lt b _ h1).2
theorem Xv.app2 {x y : Operand} {t u e n0 nu size : Nat} {z0 zu : Option (List Value)} {z : List Value} {t0 t1 tu : Nat} {ke ku : Sh} (ht : tk X.B.T t = some ⟨t0, n0, .sl e, z0⟩) (he : tk X.B.T e = some ⟨t1, size, ke, some z⟩) (hu : tk X.B.T u = some ⟨tu, nu, ku, zu⟩) (hn : notI ku = true) (h0 : Nat.blt 0 size = true)
    {q : Option Addr} {n c : Nat} {v : Value} {γ k : Nat} {cs new : List Value} (hx : ev env x = some (.slice q n c)) (hy : ev env y = some v) (w : Wf s) (hg : Gw s q n c size cs γ) (hk : lenOfV v = some k) (hv : cellsFrom s size k v = some new) (hl : new.length = k * size) (h1 : ∀ v ∈ new, one v = true) {y0 : Nat} (hV : lkV X.B.V e = some y0) (hr : (2 * (n + k) + 768) * y0 ≤ 281474976710656) (hb : n + k ≤ 4611686018427387904) :
    ∃ q' c' γ' s', Xv X (.call ⟨.builtin .append, #[x, y], #[t, u]⟩) env s (.slice q' (n + k) c') s' ∧ Gw s' q' (n + k) c' size (cs ++ new) γ' ∧ Kp (fun c => q ≠ none ∧ c = γ) s s' ∧ ((q ≠ none ∧ γ' = γ) ∨ γ' = s.nx) := by
  by_cases hq : q = none
  · obtain ⟨q', c', γ', s', a, b, k1, k2, _⟩ := Xv.app (X := X) (env := env) ht he hu hn h0 hx hy w (hg.any (s' := s) (γ' := s.nx) hq) hk hv hl h1 hV hr hb
    refine ⟨q', c', γ', s', a, b, (Kp.new (N := s.nx) .refl (k1.mono fun c e => Nat.le_of_eq e.symm) (Nat.le_refl _)).mono fun _ e => e.elim, .inr ?_⟩
    rcases k2 with k2 | ⟨k2, _⟩ <;> exact k2
  · obtain ⟨q', c', γ', s', a, b, k1, k2, _⟩ := Xv.app (X := X) (env := env) ht he hu hn h0 hx hy w hg hk hv hl h1 hV hr hb
    refine ⟨q', c', γ', s', a, b, k1.mono fun c e => ⟨hq, e⟩, ?_⟩
    rcases k2 with k2 | ⟨k2, _⟩
    · exact .inl ⟨hq, k2⟩
    · exact .inr k2
theorem Wo.app2 {x y : Operand} {t u e n0 nu size : Nat} {z0 zu : Option (List Value)} {z : List Value} {t0 t1 tu : Nat} {ke ku : Sh} (hgd : wantsE all env g = some true) (ht : tk X.B.T t = some ⟨t0, n0, .sl e, z0⟩) (he : tk X.B.T e = some ⟨t1, size, ke, some z⟩) (hu : tk X.B.T u = some ⟨tu, nu, ku, zu⟩) (hn : notI ku = true) (h0 : Nat.blt 0 size = true) (hd : dOk X d = true)
    {q : Option Addr} {n c : Nat} {v : Value} {γ k : Nat} {cs new : List Value} (hx : ev env x = some (.slice q n c)) (hy : ev env y = some v) (w : Wf s) (hg : Gw s q n c size cs γ) (hk : lenOfV v = some k) (hv : cellsFrom s size k v = some new) (hl : new.length = k * size) (h1 : ∀ v ∈ new, one v = true) {y0 : Nat} (hV : lkV X.B.V e = some y0) (hr : (2 * (n + k) + 768) * y0 ≤ 281474976710656) (hb : n + k ≤ 4611686018427387904)
    (K : ∀ q' c' γ' s', Gw s' q' (n + k) c' size (cs ++ new) γ' → Kp (fun c => q ≠ none ∧ c = γ) s s' → ((q ≠ none ∧ γ' = γ) ∨ γ' = s.nx) → Wo X all os (up d (.slice q' (n + k) c') env) df s' Q) :
    Wo X all (⟨d, .call ⟨.builtin .append, #[x, y], #[t, u]⟩, ty, pos, af, g⟩ :: os) env df s Q := by
  obtain ⟨q', c', γ', s', a, b, c1, d1⟩ := Xv.app2 (X := X) (env := env) ht he hu hn h0 hx hy w hg hk hv hl h1 hV hr hb
  exact Wo.val hgd a hd (K q' c' γ' s' b c1 d1)
theorem Wd.app2 {i m : Nat} {L : List Sp} {past : Past} {x y : Operand} {t u e n0 nu size : Nat} {z0 zu : Option (List Value)} {z : List Value} {t0 t1 tu : Nat} {ke ku : Sh} (hgd : wantsE all env g = some true) (ht : tk X.B.T t = some ⟨t0, n0, .sl e, z0⟩) (he : tk X.B.T e = some ⟨t1, size, ke, some z⟩) (hu : tk X.B.T u = some ⟨tu, nu, ku, zu⟩) (hn : notI ku = true) (h0 : Nat.blt 0 size = true) (hd : dOk X d = true)
    {q : Option Addr} {n c : Nat} {v : Value} {γ k : Nat} {cs new : List Value} (hx : ev env x = some (.slice q n c)) (hy : ev env y = some v) (w : Wf s) (hg : Gw s q n c size cs γ) (hk : lenOfV v = some k) (hv : cellsFrom s size k v = some new) (hl : new.length = k * size) (h1 : ∀ v ∈ new, one v = true) {y0 : Nat} (hV : lkV X.B.V e = some y0) (hr : (2 * (n + k) + 768) * y0 ≤ 281474976710656) (hb : n + k ≤ 4611686018427387904)
    (K : ∀ q' c' γ' s', Gw s' q' (n + k) c' size (cs ++ new) γ' → Kp (fun c => q ≠ none ∧ c = γ) s s' → ((q ≠ none ∧ γ' = γ) ∨ γ' = s.nx) → Wd X all L ((some i, s') :: past) (up d (.slice q' (n + k) c') env) df s' Q) :
    Wd X all (.mk .acts i ⟨d, .call ⟨.builtin .append, #[x, y], #[t, u]⟩, ty, pos, af, g⟩ m :: L) past env df s Q := by
  obtain ⟨q', c', γ', s', a, b, c1, d1⟩ := Xv.app2 (X := X) (env := env) ht he hu hn h0 hx hy w hg hk hv hl h1 hV hr hb
  exact Wd.act hgd a hd c1.le (K q' c' γ' s' b c1 d1)
end
/-- A list of bytes that was handed out: its cell, its colour, what it is. -/
structure Ce where
  q : Option Addr
  c : Nat
  γ : Nat
  A : List Nat
def Ce.v (x : Ce) : Value := .slice x.q x.A.length x.c
structure CeOk (s : St) (lo : Nat) (x : Ce) : Prop where
  gw : Gw s x.q x.A.length x.c 1 (x.A.map nB) x.γ
  lo : x.q ≠ none → lo ≤ x.γ
  sm : x.A.length < 2 ^ 40
/-- Such lists, no room shared. -/
structure Fc (s : St) (lo : Nat) (l : List Ce) : Prop where
  ok : ∀ x ∈ l, CeOk s lo x
  pw : l.Pairwise fun x y => x.q ≠ none → y.q ≠ none → x.γ ≠ y.γ
theorem CeOk.bs {s : St} {lo : Nat} {x : Ce} (h : CeOk s lo x) : BsV s x.v x.A := ⟨x.q, x.c, rfl, h.gw.sl.at, by have := h.sm; omega⟩
theorem Fc.nil {s : St} {lo : Nat} : Fc s lo [] := ⟨by simp, .nil⟩
theorem Fc.kp {C : Nat → Prop} {s s' : St} {lo : Nat} {l : List Ce} (h : Fc s lo l) (w : Wf s) (k : Kp C s s') (hc : ∀ x ∈ l, x.q ≠ none → ¬ C x.γ) : Fc s' lo l :=
  ⟨fun x hx => ⟨(h.ok x hx).gw.keep w k (hc x hx), (h.ok x hx).lo, (h.ok x hx).sm⟩, h.pw⟩
theorem Fc.lt {s : St} {lo : Nat} {l : List Ce} (h : Fc s lo l) (w : Wf s) {x : Ce} (hx : x ∈ l) (hq : x.q ≠ none) : x.γ < s.nx := (h.ok x hx).gw.ltn w hq
theorem Fc.app {s : St} {lo lo' : Nat} {l m : List Ce} (h : Fc s lo l) (k : Fc s lo' m) (hl : lo ≤ lo') (hx : ∀ x ∈ l, ∀ y ∈ m, x.q ≠ none → y.q ≠ none → x.γ ≠ y.γ) : Fc s lo (l ++ m) :=
  ⟨fun x hm => by
    rcases List.mem_append.1 hm with hm | hm
    · exact h.ok x hm
    · exact ⟨(k.ok x hm).gw, fun hq => Nat.le_trans hl ((k.ok x hm).lo hq), (k.ok x hm).sm⟩, List.pairwise_append.2 ⟨h.pw, k.pw, hx⟩⟩
theorem Fc.sub {s : St} {lo : Nat} {l m : List Ce} (h : Fc s lo l) (k : m.Sublist l) : Fc s lo m := ⟨fun x hx => h.ok x (k.subset hx), h.pw.sublist k⟩
/-- Entries of such lists. -/
abbrev EC := List (Ce × Ce)
def efl (M : EC) : List Ce := M.flatMap fun p => [p.1, p.2]
def ecs (M : EC) : List Value := M.flatMap fun p => [p.1.v, p.2.v]
def ect (M : EC) : List Ety := M.map fun p => (p.1.A, p.2.A)
theorem efl_app {M N : EC} : efl (M ++ N) = efl M ++ efl N := List.flatMap_append
theorem ecs_app {M N : EC} : ecs (M ++ N) = ecs M ++ ecs N := List.flatMap_append
theorem ect_app {M N : EC} : ect (M ++ N) = ect M ++ ect N := List.map_append
theorem ect_length {M : EC} : (ect M).length = M.length := List.length_map _
theorem ecs_length : ∀ M : EC, (ecs M).length = M.length * 2
  | [] => rfl
  | p :: M => by
    show ([p.1.v, p.2.v] ++ ecs M).length = _
    simp only [List.length_append, ecs_length M, List.length_cons, List.length_nil]; omega
theorem ecs_one : ∀ {M : EC}, ∀ v ∈ ecs M, one v = true
  | M, v, hv => by
    obtain ⟨p, _, h⟩ := List.mem_flatMap.1 hv
    simp only [List.mem_cons, List.not_mem_nil, or_false] at h
    rcases h with rfl | rfl <;> rfl
theorem ecs_ent {s : St} {lo : Nat} : ∀ {M : EC}, (∀ x ∈ efl M, CeOk s lo x) → Ent s (ecs M) (ect M)
  | [], _ => trivial
  | p :: M, h => ⟨(h p.1 (by simp [efl])).bs, (h p.2 (by simp [efl])).bs, ecs_ent fun x hx => h x (by
      have : efl (p :: M) = [p.1, p.2] ++ efl M := rfl
      rw [this]; exact List.mem_append_right _ hx)⟩
theorem ecs_map {M : EC} : ecs M = (efl M).map Ce.v := by unfold ecs efl; rw [List.map_flatMap]; rfl
/-- A list of entries that a call handed out: all of it lies in new memory. -/
structure Res (lo : Nat) (s : St) (q : Option Addr) (n c : Nat) (γ : Nat) (M : EC) : Prop where
  gw : Gw s q n c 2 (ecs M) γ
  fc : Fc s lo (efl M)
  lo : q ≠ none → lo ≤ γ
  ne : ∀ x ∈ efl M, x.q ≠ none → q ≠ none → x.γ ≠ γ
theorem Res.len {lo : Nat} {s : St} {q : Option Addr} {n c γ : Nat} {M : EC} (h : Res lo s q n c γ M) : M.length = n := by
  have := h.gw.len
  rw [ecs_length] at this
  omega
theorem Res.ent {lo : Nat} {s : St} {q : Option Addr} {n c γ : Nat} {M : EC} (h : Res lo s q n c γ M) : Ent s (ecs M) (ect M) := ecs_ent h.fc.ok
theorem Res.kp {C : Nat → Prop} {lo : Nat} {s s' : St} {q : Option Addr} {n c γ : Nat} {M : EC} (h : Res lo s q n c γ M) (w : Wf s) (k : Kp C s s') (hc : ∀ c, lo ≤ c → ¬ C c) : Res lo s' q n c γ M :=
  ⟨h.gw.keep w k fun hq => hc _ (h.lo hq), h.fc.kp w k fun x hx hq => hc _ ((h.fc.ok x hx).lo hq), h.lo, h.ne⟩
theorem Res.kn {lo : Nat} {s s' : St} {q : Option Addr} {n c γ : Nat} {M : EC} (h : Res lo s q n c γ M) (w : Wf s) (k : Kn s s') : Res lo s' q n c γ M := h.kp w k fun _ _ => id
theorem Res.at {lo : Nat} {s : St} {q : Option Addr} {n c γ : Nat} {M : EC} (h : Res lo s q n c γ M) : At s q (ecs M) := h.gw.sl.at
/-- Less may be kept of another row. -/
theorem Dt.kpc {C : Nat → Prop} {s0 s s' : St} {b γ : Nat} {l : List El} (h : Dt s0 s b l γ) (k : Kp C s s') (hc : ∀ c, C c → s0.nx ≤ c) (hg : ¬ C γ) : Dt s0 s' b l γ := ⟨h.w0, h.kp.trans (k.mono hc), h.rw.kp h.wf k hg, h.ge, h.ks⟩
end Go.Sy
