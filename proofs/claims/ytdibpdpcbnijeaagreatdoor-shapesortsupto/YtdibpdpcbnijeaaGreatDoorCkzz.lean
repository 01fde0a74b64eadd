import Derived.Test.YtdibpdpcbnijeaaGreatDoorKmzz
import Derived.Test.YtdibpdpcbnijeaaGreatDoorCszz
import Derived.Test.YtdibpdpcbnijeaaGreatDoorCtzz
/-
  The evaluator over any input: where ways meet again.
-/
namespace Go.Sy
open Go Go.Ev
section
variable {X : Fx} {env : Env} {df : List Deferred} {s : St} {Q : Post}
structure meet {α : Type} (I : α → Env) (S : α → St) (ok : α → Prop) (df : List Deferred) (e : Ex) (env : Env) (df' : List Deferred) (s' : St) : Prop where
  h : e = .normal ∧ ∃ i, ok i ∧ Sub (I i) env ∧ df' = df ∧ s' = S i
theorem meet.n {α : Type} {I : α → Env} {S : α → St} {ok : α → Prop} (i : α) (h : ok i) (h1 : Sub (I i) env) (h2 : s = S i) : meet I S ok df .normal env df s := ⟨rfl, i, h, h1, rfl, h2⟩
theorem meet.go {α : Type} {I : α → Env} {S : α → St} {ok : α → Prop} {rest : Code} (k : ∀ i, ok i → W X rest (I i) df (S i) Q) {e : Ex} {env' : Env} {df' : List Deferred} {s' : St} (m : meet I S ok df e env' df' s') : andThen X rest Q e env' df' s' := by
  obtain ⟨rfl, i, hi, hs, rfl, rfl⟩ := m.h
  exact andThen.n ((k i hi).sub hs)
theorem andThen.mono {c : Code} {Q Q' : Post} (h : ∀ e env df s, Q e env df s → Q' e env df s) {e : Ex} {env : Env} {df : List Deferred} {s : St} (m : andThen X c Q e env df s) : andThen X c Q' e env df s := by
  obtain ⟨m⟩ := m
  refine ⟨?_⟩
  cases e with
  | normal => exact ⟨m.w.mono h⟩
  | ret => exact h _ _ _ _ m
  | exit i => exact h _ _ _ _ m
  | goto i => exact h _ _ _ _ m
/-- At a condition. -/
theorem W.meet {α : Type} (I : α → Env) (S : α → St) (ok : α → Prop) {c rest : Code} (h : W X c env df s (meet I S ok df)) (k : ∀ i, ok i → W X rest (I i) df (S i) Q) : W X c env df s (andThen X rest Q) := ⟨h.w.mono fun _ _ _ _ m => m.go k⟩
/-- Ahead of a condition. -/
theorem Wo.meet {α : Type} (I : α → Env) (S : α → St) (ok : α → Prop) {all ops : List Oper} {c rest : Code} (h : Wo X all ops env df s (andThen X c (meet I S ok df))) (k : ∀ i, ok i → W X rest (I i) df (S i) Q) : Wo X all ops env df s (andThen X c (andThen X rest Q)) := ⟨h.w.mono fun _ _ _ _ m => m.mono fun _ _ _ _ m => m.go k⟩
theorem Wd.meet {α : Type} (I : α → Env) (S : α → St) (ok : α → Prop) {all : List Oper} {l : List Sp} {past : Past} {c rest : Code} (h : Wd X all l past env df s (andThen X c (meet I S ok df))) (k : ∀ i, ok i → W X rest (I i) df (S i) Q) : Wd X all l past env df s (andThen X c (andThen X rest Q)) := ⟨h.w.mono fun _ _ _ _ m => m.mono fun _ _ _ _ m => m.go k⟩
end
/-- The middle, as it is reckoned. -/
theorem half_ok {i j : Nat} (h : i + j < 2 ^ 62) : wrapN .i64 (Nat.shiftRight (Nat.mod (i + j) 18446744073709551616) 1) = some ((i + j) / 2) := by
  have e : Nat.shiftRight (Nat.mod (i + j) 18446744073709551616) 1 = (i + j) / 2 := by
    rw [show Nat.mod (i + j) 18446744073709551616 = i + j from Nat.mod_eq_of_lt (by omega)]
    show (i + j) >>> 1 = _
    rw [Nat.shiftRight_eq_div_pow]
  rw [e]
  exact wrapI (by omega)
section
variable {α : Type} {f : α → List Nat}
theorem take_at {l : List α} {k : Nat} {x : α} (h : l[k]? = some x) : l = l.take k ++ x :: l.drop (k + 1) ∧ l.take (k + 1) = l.take k ++ [x] ∧ l.drop k = x :: l.drop (k + 1) := by
  have hk : k < l.length := (List.getElem?_eq_some_iff.1 h).1
  have e : l.drop k = x :: l.drop (k + 1) := by rw [List.drop_eq_getElem_cons hk]; congr 1; rw [List.getElem?_eq_getElem hk] at h; injection h
  refine ⟨by rw [← e, List.take_append_drop], by rw [List.take_add_one, h]; rfl, e⟩
theorem srt_take {l : List α} {k : Nat} {x : α} (o : Srt f l) (h : l[k]? = some x) : ∀ y ∈ l.take (k + 1), ¬ Lt (f x) (f y) := fun y hy => by
  obtain ⟨e1, e2, e3⟩ := take_at h
  rw [e2] at hy
  rw [e1] at o
  rcases List.mem_append.1 hy with hy | hy
  · exact o.cross y hy x List.mem_cons_self
  · rw [List.mem_singleton] at hy; subst hy; exact Lt.irrefl _
theorem srt_drop {l : List α} {k : Nat} {x : α} (o : Srt f l) (h : l[k]? = some x) : ∀ y ∈ l.drop k, ¬ Lt (f y) (f x) := fun y hy => by
  obtain ⟨e1, e2, e3⟩ := take_at h
  rw [e3] at hy
  rw [e1] at o
  rcases List.mem_cons.1 hy with rfl | hy
  · exact Lt.irrefl _
  · exact (List.pairwise_cons.1 o.right).1 y hy
theorem idx1 {P U R : List α} {a t : Nat} (ha : P.length = a) (h1 : a ≤ t) (h2 : t < a + U.length) : (P ++ (U ++ R))[t]? = U[t - a]? := by
  rw [List.getElem?_append_right (by omega), ha, List.getElem?_append_left (by omega)]
theorem idx2 {P U V R : List α} {a m t : Nat} (ha : P.length = a) (hm : a + U.length = m) (h1 : m ≤ t) (h2 : t < m + V.length) : (P ++ (U ++ (V ++ R)))[t]? = V[t - m]? := by
  rw [List.getElem?_append_right (by omega), List.getElem?_append_right (by omega), List.getElem?_append_left (by omega)]; congr 1; omega
theorem at_lt {l : List α} {k : Nat} (h : k < l.length) : ∃ x, l[k]? = some x := ⟨l[k], List.getElem?_eq_getElem h⟩
end
end Go.Sy
/-
  The evaluator over any input: appends to what may be nil; lists that were handed out.
-/
namespace Go.Sy
open Go Go.Ev
section
variable {X : Fx} {env : Env} {df : List Deferred} {s : St} {Q : Post} {all os : List Oper} {d : Option Nat} {ty : TypeId} {pos : String} {af : Array Edge} {g : Option (Nat × Bool)}
theorem Gw.any {s s' : St} {q : Option Addr} {n c size γ γ' : Nat} {cs : List Value} (h : Gw s q n c size cs γ) (hq : q = none) : Gw s' q n c size cs γ' := by
  rcases h.at' with e | ⟨b, g, e, _⟩
  · exact ⟨h.len, .inl e⟩
  · rw [hq] at e; cases e
theorem Gw.keep {C : Nat → Prop} {s s' : St} {q : Option Addr} {n c size γ : Nat} {cs : List Value} (h : Gw s q n c size cs γ) (w : Wf s) (k : Kp C s s') (hc : q ≠ none → ¬ C γ) : Gw s' q n c size cs γ := by
  by_cases hq : q = none
  · exact h.any hq
  · exact h.kp w k (hc hq)
theorem Gw.ltn {s : St} {q : Option Addr} {n c size γ : Nat} {cs : List Value} (h : Gw s q n c size cs γ) (w : Wf s) (hq : q ≠ none) : γ < s.nx := by
  rcases h.at' with e | ⟨b, g, _, h1, h2, _⟩
  · exact absurd e.1 hq
  · rw [← h2]; exact (w.lt b _ h1).2
theorem Xv.app2 {x y : Operand} {t u e n0 nu size : Nat} {z0 zu : Option (List Value)} {z : List Value} {t0 t1 tu : Nat} {ke ku : Sh} (ht : tk X.B.T t = some ⟨t0, n0, .sl e, z0⟩) (he : tk X.B.T e = some ⟨t1, size, ke, some z⟩) (hu : tk X.B.T u = some ⟨tu, nu, ku, zu⟩) (hn : notI ku = true) (h0 : Nat.blt 0 size = true)
    {q : Option Addr} {n c : Nat} {v : Value} {γ k : Nat} {cs new : List Value} (hx : ev env x = some (.slice q n c)) (hy : ev env y = some v) (w : Wf s) (hg : Gw s q n c size cs γ) (hk : lenOfV v = some k) (hv : cellsFrom s size k v = some new) (hl : new.length = k * size) (h1 : ∀ v ∈ new, one v = true) {y0 : Nat} (hV : lkV X.B.V e = some y0) (hr : (2 * (n + k) + 768) * y0 ≤ 281474976710656) (hb : n + k ≤ 4611686018427387904) :
    ∃ q' c' γ' s', Xv X (.call ⟨.builtin .append, #[x, y], #[t, u]⟩) env s (.slice q' (n + k) c') s' ∧ Gw s' q' (n + k) c' size (cs ++ new) γ' ∧ Kp (fun c => q ≠ none ∧ c = γ) s s' ∧ ((q ≠ none ∧ γ' = γ) ∨ γ' = s.nx) := by
  by_cases hq : q = none
  · obtain ⟨q', c', γ', s', a, b, k1, k2, _⟩ := Xv.app (X := X) (env := env) ht he hu hn h0 hx hy w (hg.any (s' := s) (γ' := s.nx) hq) hk hv hl h1 hV hr hb
    refine ⟨q', c', γ', s', a, b, (Kp.new (N := s.nx) .refl (k1.mono fun c e => Nat.le_of_eq e.symm) (Nat.le_refl _)).mono fun _ e => e.elim, .inr ?_⟩
    rcases k2 with k2 | ⟨k2, _⟩ <;> exact k2
  · obtain ⟨q', c', γ', s', a, b, k1, k2, _⟩ := Xv.app (X := X) (env := env) ht he hu hn h0 hx hy w hg hk hv hl h1 hV hr hb
    refine ⟨q', c', γ', s', a, b, k1.mono fun c e => ⟨hq, e⟩, ?_⟩
    rcases k2 with k2 | ⟨k2, _⟩
    · exact .inl ⟨hq, k2⟩
    · exact .inr k2
theorem Wo.app2 {x y : Operand} {t u e n0 nu size : Nat} {z0 zu : Option (List Value)} {z : List Value} {t0 t1 tu : Nat} {ke ku : Sh} (hgd : wantsE all env g = some true) (ht : tk X.B.T t = some ⟨t0, n0, .sl e, z0⟩) (he : tk X.B.T e = some ⟨t1, size, ke, some z⟩) (hu : tk X.B.T u = some ⟨tu, nu, ku, zu⟩) (hn : notI ku = true) (h0 : Nat.blt 0 size = true) (hd : dOk X d = true)
    {q : Option Addr} {n c : Nat} {v : Value} {γ k : Nat} {cs new : List Value} (hx : ev env x = some (.slice q n c)) (hy : ev env y = some v) (w : Wf s) (hg : Gw s q n c size cs γ) (hk : lenOfV v = some k) (hv : cellsFrom s size k v = some new) (hl : new.length = k * size) (h1 : ∀ v ∈ new, one v = true) {y0 : Nat} (hV : lkV X.B.V e = some y0) (hr : (2 * (n + k) + 768) * y0 ≤ 281474976710656) (hb : n + k ≤ 4611686018427387904)
    (K : ∀ q' c' γ' s', Gw s' q' (n + k) c' size (cs ++ new) γ' → Kp (fun c => q ≠ none ∧ c = γ) s s' → ((q ≠ none ∧ γ' = γ) ∨ γ' = s.nx) → Wo X all os (up d (.slice q' (n + k) c') env) df s' Q) :
    Wo X all (⟨d, .call ⟨.builtin .append, #[x, y], #[t, u]⟩, ty, pos, af, g⟩ :: os) env df s Q := by
  obtain ⟨q', c', γ', s', a, b, c1, d1⟩ := Xv.app2 (X := X) (env := env) ht he hu hn h0 hx hy w hg hk hv hl h1 hV hr hb
  exact Wo.val hgd a hd (K q' c' γ' s' b c1 d1)
theorem Wd.app2 {i m : Nat} {L : List Sp} {past : Past} {x y : Operand} {t u e n0 nu size : Nat} {z0 zu : Option (List Value)} {z : List Value} {t0 t1 tu : Nat} {ke ku : Sh} (hgd : wantsE all env g = some true) (ht : tk X.B.T t = some ⟨t0, n0, .sl e, z0⟩) (he : tk X.B.T e = some ⟨t1, size, ke, some z⟩) (hu : tk X.B.T u = some ⟨tu, nu, ku, zu⟩) (hn : notI ku = true) (h0 : Nat.blt 0 size = true) (hd : dOk X d = true)
    {q : Option Addr} {n c : Nat} {v : Value} {γ k : Nat} {cs new : List Value} (hx : ev env x = some (.slice q n c)) (hy : ev env y = some v) (w : Wf s) (hg : Gw s q n c size cs γ) (hk : lenOfV v = some k) (hv : cellsFrom s size k v = some new) (hl : new.length = k * size) (h1 : ∀ v ∈ new, one v = true) {y0 : Nat} (hV : lkV X.B.V e = some y0) (hr : (2 * (n + k) + 768) * y0 ≤ 281474976710656) (hb : n + k ≤ 4611686018427387904)
    (K : ∀ q' c' γ' s', Gw s' q' (n + k) c' size (cs ++ new) γ' → Kp (fun c => q ≠ none ∧ c = γ) s s' → ((q ≠ none ∧ γ' = γ) ∨ γ' = s.nx) → Wd X all L ((some i, s') :: past) (up d (.slice q' (n + k) c') env) df s' Q) :
    Wd X all (.mk .acts i ⟨d, .call ⟨.builtin .append, #[x, y], #[t, u]⟩, ty, pos, af, g⟩ m :: L) past env df s Q := by
  obtain ⟨q', c', γ', s', a, b, c1, d1⟩ := Xv.app2 (X := X) (env := env) ht he hu hn h0 hx hy w hg hk hv hl h1 hV hr hb
  exact Wd.act hgd a hd c1.le (K q' c' γ' s' b c1 d1)
end
/-- A list of bytes that was handed out: its cell, its colour, what it is. -/
structure Ce where
  q : Option Addr
  c : Nat
  γ : Nat
  A : List Nat
def Ce.v (x : Ce) : Value := .slice x.q x.A.length x.c
structure CeOk (s : St) (lo : Nat) (x : Ce) : Prop where
  gw : Gw s x.q x.A.length x.c 1 (x.A.map nB) x.γ
  lo : x.q ≠ none → lo ≤ x.γ
  sm : x.A.length < 2 ^ 40
/-- Such lists, no room shared. -/
structure Fc (s : St) (lo : Nat) (l : List Ce) : Prop where
  ok : ∀ x ∈ l, CeOk s lo x
  pw : l.Pairwise fun x y => x.q ≠ none → y.q ≠ none → x.γ ≠ y.γ
theorem CeOk.bs {s : St} {lo : Nat} {x : Ce} (h : CeOk s lo x) : BsV s x.v x.A := ⟨x.q, x.c, rfl, h.gw.sl.at, by have := h.sm; omega⟩
theorem Fc.nil {s : St} {lo : Nat} : Fc s lo [] := ⟨by simp, .nil⟩
theorem Fc.kp {C : Nat → Prop} {s s' : St} {lo : Nat} {l : List Ce} (h : Fc s lo l) (w : Wf s) (k : Kp C s s') (hc : ∀ x ∈ l, x.q ≠ none → ¬ C x.γ) : Fc s' lo l :=
  ⟨fun x hx => ⟨(h.ok x hx).gw.keep w k (hc x hx), (h.ok x hx).lo, (h.ok x hx).sm⟩, h.pw⟩
theorem Fc.lt {s : St} {lo : Nat} {l : List Ce} (h : Fc s lo l) (w : Wf s) {x : Ce} (hx : x ∈ l) (hq : x.q ≠ none) : x.γ < s.nx := (h.ok x hx).gw.ltn w hq
theorem Fc.app {s : St} {lo lo' : Nat} {l m : List Ce} (h : Fc s lo l) (k : Fc s lo' m) (hl : lo ≤ lo') (hx : ∀ x ∈ l, ∀ y ∈ m, x.q ≠ none → y.q ≠ none → x.γ ≠ y.γ) : Fc s lo (l ++ m) :=
  ⟨fun x hm => by
    rcases List.mem_append.1 hm with hm | hm
    · exact h.ok x hm
    · exact ⟨(k.ok x hm).gw, fun hq => Nat.le_trans hl ((k.ok x hm).lo hq), (k.ok x hm).sm⟩, List.pairwise_append.2 ⟨h.pw, k.pw, hx⟩⟩
theorem Fc.sub {s : St} {lo : Nat} {l m : List Ce} (h : Fc s lo l) (k : m.Sublist l) : Fc s lo m := ⟨fun x hx => h.ok x (k.subset hx), h.pw.sublist k⟩
/-- Entries of such lists. -/
abbrev EC := List (Ce × Ce)
def efl (M : EC) : List Ce := M.flatMap fun p => [p.1, p.2]
def ecs (M : EC) : List Value := M.flatMap fun p => [p.1.v, p.2.v]
def ect (M : EC) : List Ety := M.map fun p => (p.1.A, p.2.A)
theorem efl_app {M N : EC} : efl (M ++ N) = efl M ++ efl N := List.flatMap_append
theorem ecs_app {M N : EC} : ecs (M ++ N) = ecs M ++ ecs N := List.flatMap_append
theorem ect_app {M N : EC} : ect (M ++ N) = ect M ++ ect N := List.map_append
theorem ect_length {M : EC} : (ect M).length = M.length := List.length_map _
theorem ecs_length : ∀ M : EC, (ecs M).length = M.length * 2
  | [] => rfl
  | p :: M => by
    show ([p.1.v, p.2.v] ++ ecs M).length = _
    simp only [List.length_append, ecs_length M, List.length_cons, List.length_nil]; omega
theorem ecs_one : ∀ {M : EC}, ∀ v ∈ ecs M, one v = true
  | M, v, hv => by
    obtain ⟨p, _, h⟩ := List.mem_flatMap.1 hv
    simp only [List.mem_cons, List.not_mem_nil, or_false] at h
    rcases h with rfl | rfl <;> rfl
theorem ecs_ent {s : St} {lo : Nat} : ∀ {M : EC}, (∀ x ∈ efl M, CeOk s lo x) → Ent s (ecs M) (ect M)
  | [], _ => trivial
  | p :: M, h => ⟨(h p.1 (by simp [efl])).bs, (h p.2 (by simp [efl])).bs, ecs_ent fun x hx => h x (by
      have : efl (p :: M) = [p.1, p.2] ++ efl M := rfl
      rw [this]; exact List.mem_append_right _ hx)⟩
theorem ecs_map {M : EC} : ecs M = (efl M).map Ce.v := by unfold ecs efl; rw [List.map_flatMap]; rfl
/-- A list of entries that a call handed out: all of it lies in new memory. -/
structure Res (lo : Nat) (s : St) (q : Option Addr) (n c : Nat) (γ : Nat) (M : EC) : Prop where
  gw : Gw s q n c 2 (ecs M) γ
  fc : Fc s lo (efl M)
  lo : q ≠ none → lo ≤ γ
  ne : ∀ x ∈ efl M, x.q ≠ none → q ≠ none → x.γ ≠ γ
theorem Res.len {lo : Nat} {s : St} {q : Option Addr} {n c γ : Nat} {M : EC} (h : Res lo s q n c γ M) : M.length = n := by
  have := h.gw.len
  rw [ecs_length] at this
  omega
theorem Res.ent {lo : Nat} {s : St} {q : Option Addr} {n c γ : Nat} {M : EC} (h : Res lo s q n c γ M) : Ent s (ecs M) (ect M) := ecs_ent h.fc.ok
theorem Res.kp {C : Nat → Prop} {lo : Nat} {s s' : St} {q : Option Addr} {n c γ : Nat} {M : EC} (h : Res lo s q n c γ M) (w : Wf s) (k : Kp C s s') (hc : ∀ c, lo ≤ c → ¬ C c) : Res lo s' q n c γ M :=
  ⟨h.gw.keep w k fun hq => hc _ (h.lo hq), h.fc.kp w k fun x hx hq => hc _ ((h.fc.ok x hx).lo hq), h.lo, h.ne⟩
theorem Res.kn {lo : Nat} {s s' : St} {q : Option Addr} {n c γ : Nat} {M : EC} (h : Res lo s q n c γ M) (w : Wf s) (k : Kn s s') : Res lo s' q n c γ M := h.kp w k fun _ _ => id
theorem Res.at {lo : Nat} {s : St} {q : Option Addr} {n c γ : Nat} {M : EC} (h : Res lo s q n c γ M) : At s q (ecs M) := h.gw.sl.at
/-- Less may be kept of another row. -/
theorem Dt.kpc {C : Nat → Prop} {s0 s s' : St} {b γ : Nat} {l : List El} (h : Dt s0 s b l γ) (k : Kp C s s') (hc : ∀ c, C c → s0.nx ≤ c) (hg : ¬ C γ) : Dt s0 s' b l γ := ⟨h.w0, h.kp.trans (k.mono hc), h.rw.kp h.wf k hg, h.ge, h.ks⟩
end Go.Sy
/-
  octet.Common, octet.Compare, shape.byKey.
-/
namespace Go.Proofs.YtdibpdpcbnijeaaGreatDoor
open Go Go.Ev Go.Sy
set_option maxRecDepth 100000
variable {s : St} {q r : Option Addr} {c d : Nat} {M N : List Nat}
theorem ocommon_ok (ha : Bs s q M) (hb : Bs s r N) (hA : M.length < 2 ^ 60) (_hB : N.length < 2 ^ 60) :
    Cl B (.call 49 [.slice q M.length c, .slice r N.length d]) s fun v s' => v = nI (com M N) ∧ s' = s := by
  refine Cl.enter Tryz.f49 fn49 rfl rfl rfl ?_
  refine run1 ?_
  refine W.loop (α := Nat) (fun i => [(0, .slice q M.length c), (1, .slice r N.length d), (5, nI (min M.length N.length)), (12, nI (min M.length N.length)), (13, nI i)]) (fun _ => []) (fun _ => s)
    (fun i => i ≤ min M.length N.length ∧ com M N = i + com (M.drop i) (N.drop i)) (fun i => M.length - i) 0 ⟨Nat.zero_le _, (Nat.zero_add _).symm⟩ (.cons rfl (.cons rfl (.cons rfl (.cons rfl (.cons rfl .nil))))) rfl rfl (by omega) ?_
  intro i ⟨h1, h2⟩
  by_cases k1 : i < min M.length N.length
  · have k2 : i < M.length := by omega
    have k3 : i < N.length := by omega
    refine run1 ?_
    refine W.dr [(0, .none, 0), (1, .none, 0), (2, .none, 3), (3, .reads, 7), (4, .none, 0), (5, .none, 0), (6, .none, 48), (7, .reads, 112), (8, .none, 255)] (by kernel_rfl) rfl ?_
    by_cases k4 : M.getD i 0 ≠ N.getD i 0
    · refine run1 ?_
      refine Lv.ret rfl ⟨congrArg nI ?_, rfl⟩
      rw [h2, com_drop k2 k3, if_neg k4]; rfl
    · refine run1 ?_
      refine rnd.n (i + 1) ⟨by omega, ?_⟩ (by omega) (.cons rfl (.cons rfl (.cons rfl (.cons rfl (.cons rfl .nil))))) rfl rfl
      rw [h2, com_drop k2 k3, if_pos (Classical.not_not.1 k4), Nat.add_assoc, Nat.add_comm 1]
  · refine run1 ?_
    refine Lv.ret rfl ⟨congrArg nI ?_, rfl⟩
    rw [h2, com_end (by omega)]; omega
theorem ocompare_ok (ha : Bs s q M) (hb : Bs s r N) (hA : M.length < 2 ^ 60) (hB : N.length < 2 ^ 60) :
    Cl B (.call 33 [.slice q M.length c, .slice r N.length d]) s fun v s' => v = .int .i64 (cmp M N) ∧ s' = s := by
  refine Cl.enter Tryz.f33 fn33 rfl rfl rfl ?_
  refine run1 ?_
  refine Wo.call rfl (Xc.call ok49 rfl) rfl ((ocommon_ok ha hb hA hB).mono ?_)
  rintro v s' ⟨rfl, rfl⟩
  obtain ⟨l1, l2⟩ := com_le M N
  by_cases k1 : com M N = M.length
  · by_cases k2 : com M N = N.length
    · refine run1 ?_
      exact Lv.ret rfl ⟨by rw [cmp, if_pos ⟨k1, k2⟩]; rfl, rfl⟩
    · refine run1 ?_
      exact Lv.ret rfl ⟨by rw [cmp, if_neg fun h => k2 h.2, if_pos k1]; rfl, rfl⟩
  · by_cases k2 : com M N = N.length
    · refine run1 ?_
      exact Lv.ret rfl ⟨by rw [cmp, if_neg fun h => k1 h.1, if_neg k1, if_pos k2]; rfl, rfl⟩
    · refine run1 ?_
      refine W.dr [(0, .none, 0), (1, .none, 0), (2, .none, 3), (3, .reads, 7), (4, .none, 0), (5, .none, 0), (6, .none, 48), (7, .reads, 112), (8, .none, 255), (9, .none, 511)] (by kernel_rfl) rfl ?_
      by_cases k3 : M.getD (com M N) 0 < N.getD (com M N) 0
      · refine run1 ?_
        exact Lv.ret rfl ⟨by rw [cmp, if_neg fun h => k1 h.1, if_neg k1, if_neg k2, if_pos k3]; rfl, rfl⟩
      · refine run1 ?_
        exact Lv.ret rfl ⟨by rw [cmp, if_neg fun h => k1 h.1, if_neg k1, if_neg k2, if_neg k3]; rfl, rfl⟩
theorem bykey_ok {u u' : Value} (w : Wf s) (ha : Bs s q M) (hb : Bs s r N) (hA : M.length < 2 ^ 60) (hB : N.length < 2 ^ 60) :
    Cl B (.call 18 [.agg ⟨[.slice q M.length c, u]⟩, .agg ⟨[.slice r N.length d, u']⟩]) s fun v s' => v = .int .i64 (cmp M N) ∧ Kn s s' := by
  refine Cl.enter Tryz.f18 fn18 rfl rfl rfl ?_
  have w1 : Wf (mkRow s [.slice q M.length c, u]) := mkRow_wf w
  have k1 : Kn s (mkRow (mkRow s [.slice q M.length c, u]) [.slice r N.length d, u']) := mkRow_kn.trans mkRow_kn
  have g1 : good (some (⟨s.nx, 0, none⟩ : Addr)) := ⟨_, _, rfl⟩
  have g2 : good (some (⟨(mkRow s [.slice q M.length c, u]).nx, 0, none⟩ : Addr)) := ⟨_, _, rfl⟩
  have l1 : ldq (mkRow (mkRow s [.slice q M.length c, u]) [.slice r N.length d, u']) (qadd (some ⟨s.nx, 0, none⟩) 0) = some (.slice q M.length c) := At.ld (mkRow_sl.kp w1 mkRow_kn id).at (i := 0) (by simp)
  have l2 : ldq (mkRow (mkRow s [.slice q M.length c, u]) [.slice r N.length d, u']) (qadd (some ⟨(mkRow s [.slice q M.length c, u]).nx, 0, none⟩) 0) = some (.slice r N.length d) := At.ld mkRow_sl.at (i := 0) (by simp)
  refine run1 ?_
  refine Wo.call rfl (Xc.call ok33 rfl) rfl ((ocompare_ok (ha.kn w k1) (hb.kn w k1) hA hB).mono ?_)
  rintro v s' ⟨rfl, rfl⟩
  refine run1 ?_
  exact Lv.ret rfl ⟨rfl, k1⟩
theorem bykey_el {s0 : St} {b γ : Nat} {l : List El} {i j : Nat} {x y : El} (h : Dt s0 s b l γ) (hx : l[i]? = some x) (hy : l[j]? = some y) :
    Cl B (.call 18 [.agg ⟨[x.1.1, x.1.2]⟩, .agg ⟨[y.1.1, y.1.2]⟩]) s fun v s' => v = .int .i64 (cmp x.2.1 y.2.1) ∧ Dt s0 s' b l γ ∧ s.nx ≤ s'.nx := by
  obtain ⟨q1, c1, _, _, e1, _, b1, _, n1, _⟩ := h.el hx
  obtain ⟨q2, c2, _, _, e2, _, b2, _, n2, _⟩ := h.el hy
  rw [e1, e2]
  exact (bykey_ok h.wf b1 b2 n1 n2).mono fun v s' ⟨a, k⟩ => ⟨a, h.kn k, k.le⟩
end Go.Proofs.YtdibpdpcbnijeaaGreatDoor
