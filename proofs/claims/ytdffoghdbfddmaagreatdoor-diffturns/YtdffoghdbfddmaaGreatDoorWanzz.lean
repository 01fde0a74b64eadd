import Derived.Test.YtdffoghdbfddmaaGreatDoorBbzz
import Derived.Test.YtdffoghdbfddmaaGreatDoorWf1zz
import Derived.Laws.Strings
/-
  The evaluator over any input: where ways meet again.
-/
namespace Go.Sy
open Go Go.Ev
section
variable {X : Fx} {env : Env} {df : List Deferred} {s : St} {Q : Post}
structure meet {α : Type} (I : α → Env) (S : α → St) (ok : α → Prop) (df : List Deferred) (e : Ex) (env : Env) (df' : List Deferred) (s' : St) : Prop where
  h : e = .normal ∧ ∃ i, ok i ∧ Sub (I i) env ∧ df' = df ∧ s' = S i
theorem meet.n {α : Type} {I : α → Env} {S : α → St} {ok : α → Prop} (i : α) (h : ok i) (h1 : Sub (I i) env) (h2 : s = S i) : meet I S ok df .normal env df s := ⟨rfl, i, h, h1, rfl, h2⟩
theorem meet.go {α : Type} {I : α → Env} {S : α → St} {ok : α → Prop} {rest : Code} (k : ∀ i, ok i → W X rest (I i) df (S i) Q) {e : Ex} {env' : Env} {df' : List Deferred} {s' : St} (m : meet I S ok df e env' df' s') : andThen X rest Q e env' df' s' := by
  obtain ⟨rfl, i, hi, hs, rfl, rfl⟩ := m.h
  exact andThen.n ((k i hi).sub hs)
theorem andThen.mono {c : Code} {Q Q' : Post} (h : ∀ e env df s, Q e env df s → Q' e env df s) {e : Ex} {env : Env} {df : List Deferred} {s : St} (m : andThen X c Q e env df s) : andThen X c Q' e env df s := by
  obtain ⟨m⟩ := m
  refine ⟨?_⟩
  cases e with
  | normal => exact ⟨m.w.mono h⟩
  | ret => exact h _ _ _ _ m
  | exit i => exact h _ _ _ _ m
  | goto i => exact h _ _ _ _ m
/-- At a condition. -/
theorem W.meet {α : Type} (I : α → Env) (S : α → St) (ok : α → Prop) {c rest : Code} (h : W X c env df s (meet I S ok df)) (k : ∀ i, ok i → W X rest (I i) df (S i) Q) : W X c env df s (andThen X rest Q) := ⟨h.w.mono fun _ _ _ _ m => m.go k⟩
/-- Ahead of a condition. -/
theorem Wo.meet {α : Type} (I : α → Env) (S : α → St) (ok : α → Prop) {all ops : List Oper} {c rest : Code} (h : Wo X all ops env df s (andThen X c (meet I S ok df))) (k : ∀ i, ok i → W X rest (I i) df (S i) Q) : Wo X all ops env df s (andThen X c (andThen X rest Q)) := ⟨h.w.mono fun _ _ _ _ m => m.mono fun _ _ _ _ m => m.go k⟩
theorem Wd.meet {α : Type} (I : α → Env) (S : α → St) (ok : α → Prop) {all : List Oper} {l : List Sp} {past : Past} {c rest : Code} (h : Wd X all l past env df s (andThen X c (meet I S ok df))) (k : ∀ i, ok i → W X rest (I i) df (S i) Q) : Wd X all l past env df s (andThen X c (andThen X rest Q)) := ⟨h.w.mono fun _ _ _ _ m => m.mono fun _ _ _ _ m => m.go k⟩
end
/-- The middle, as it is reckoned. -/
theorem half_ok {i j : Nat} (h : i + j < 2 ^ 62) : wrapN .i64 (Nat.shiftRight (Nat.mod (i + j) 18446744073709551616) 1) = some ((i + j) / 2) := by
  have e : Nat.shiftRight (Nat.mod (i + j) 18446744073709551616) 1 = (i + j) / 2 := by
    rw [show Nat.mod (i + j) 18446744073709551616 = i + j from Nat.mod_eq_of_lt (by omega)]
    show (i + j) >>> 1 = _
    rw [Nat.shiftRight_eq_div_pow]
  rw [e]
  exact wrapI (by omega)
section
variable {α : Type} {f : α → List Nat}
theorem take_at {l : List α} {k : Nat} {x : α} (h : l[k]? = some x) : l = l.take k ++ x :: l.drop (k + 1) ∧ l.take (k + 1) = l.take k ++ [x] ∧ l.drop k = x :: l.drop (k + 1) := by
  have hk : k < l.length := (List.getElem?_eq_some_iff.1 h).1
  have e : l.drop k = x :: l.drop (k + 1) := by rw [List.drop_eq_getElem_cons hk]; congr 1; rw [List.getElem?_eq_getElem hk] at h; injection h
  refine ⟨by rw [← e, List.take_append_drop], by rw [List.take_add_one, h]; rfl, e⟩
theorem srt_take {l : List α} {k : Nat} {x : α} (o : Srt f l) (h : l[k]? = some x) : ∀ y ∈ l.take (k + 1), ¬ Lt (f x) (f y) := fun y hy => by
  obtain ⟨e1, e2, e3⟩ := take_at h
  rw [e2] at hy
  rw [e1] at o
  rcases List.mem_append.1 hy with hy | hy
  · exact o.cross y hy x List.mem_cons_self
  · rw [List.mem_singleton] at hy; subst hy; exact Lt.irrefl _
theorem srt_drop {l : List α} {k : Nat} {x : α} (o : Srt f l) (h : l[k]? = some x) : ∀ y ∈ l.drop k, ¬ Lt (f y) (f x) := fun y hy => by
  obtain ⟨e1, e2, e3⟩ := take_at h
  rw [e3] at hy
  rw [e1] at o
  rcases List.mem_cons.1 hy with rfl | hy
  · exact Lt.irrefl _
  · exact (List.pairwise_cons.1 o.right).1 y hy
theorem idx1 {P U R : List α} {a t : Nat} (ha : P.length = a) (h1 : a ≤ t) (h2 : t < a + U.length) : (P ++ (U ++ R))[t]? = U[t - a]? := by
  rw [List.getElem?_append_right (by omega), ha, List.getElem?_append_left (by omega)]
theorem idx2 {P U V R : List α} {a m t : Nat} (ha : P.length = a) (hm : a + U.length = m) (h1 : m ≤ t) (h2 : t < m + V.length) : (P ++ (U ++ (V ++ R)))[t]? = V[t - m]? := by
  rw [List.getElem?_append_right (by omega), List.getElem?_append_right (by omega), List.getElem?_append_left (by omega)]; congr 1; omega
theorem at_lt {l : List α} {k : Nat} (h : k < l.length) : ∃ x, l[k]? = some x := ⟨l[k], List.getElem?_eq_getElem h⟩
end
end Go.Sy
/-
  The evaluator over any input: strings.
-/
namespace Go.Sy
open Go Go.Ev
/-- A string of bytes. -/
def strB (A : List Nat) : ByteArray := ⟨⟨A.map UInt8.ofNat⟩⟩
theorem strB_inj {A D : List Nat} (hA : ∀ x ∈ A, x < 256) (hD : ∀ x ∈ D, x < 256) (h : strB A = strB D) : A = D := by
  have h1 : A.map UInt8.ofNat = D.map UInt8.ofNat := by injection h with h; injection h
  induction A generalizing D with
  | nil => cases D with
    | nil => rfl
    | cons => cases h1
  | cons a A ih => cases D with
    | nil => cases h1
    | cons d D =>
      simp only [List.map_cons, List.cons.injEq] at h1
      have e : a = d := by
        have := congrArg UInt8.toNat h1.1
        rw [UInt8.toNat_ofNat', UInt8.toNat_ofNat'] at this
        have ha := hA a List.mem_cons_self
        have hd := hD d List.mem_cons_self
        rwa [Nat.mod_eq_of_lt ha, Nat.mod_eq_of_lt hd] at this
      rw [e, ih (fun x hx => hA x (List.mem_cons_of_mem _ hx)) (fun x hx => hD x (List.mem_cons_of_mem _ hx)) (by unfold strB; rw [h1.2]) h1.2]
theorem bytesOf_map : ∀ A : List Nat, bytesOf (A.map nB) = some (A.map UInt8.ofNat)
  | [] => rfl
  | a :: A => by
    show (match bytesOf (A.map nB) with | some bs => some (UInt8.ofNat a :: bs) | none => none) = _
    rw [bytesOf_map A]; rfl
section
variable {X : Fx} {env : Env} {s : St}
theorem Xv.b2s {src dst t0 n e t1 n1 t2 n2 : Nat} {z z1 z2 : Option (List Value)} {x : Operand} {q : Option Addr} {c : Nat} {A : List Nat} (hs : tk X.B.T src = some ⟨t0, n, .sl e, z⟩) (he : tk X.B.T e = some ⟨t1, n1, .it .u8, z1⟩) (hd : tk X.B.T dst = some ⟨t2, n2, .str, z2⟩) (hx : ev env x = some (.slice q A.length c)) (hA : Bs s q A) : Xv X (.convert src dst x) env s (.string (strB A)) s := fun tm hf => by
  show xConv X.P src dst (opd tm x) s = _
  rw [ev_opd hf hx]
  have h1 : X.P.underlying src = some (.slice e) := X.B.un hs
  have h2 : X.P.underlying dst = some .string := X.B.un hd
  have h3 : X.P.underlying e = some (.int .u8) := X.B.un he
  unfold xConv
  simp only [h1, h2]
  unfold toStr
  simp only [h3, isU8, cond, hA.cells, bytesOf_map]
  rfl
theorem beq_str (a b : ByteArray) : (a.toList == b.toList) = decide (a = b) := by
  rw [ByteArray.toList_eq, ByteArray.toList_eq]
  obtain ⟨⟨x⟩⟩ := a
  obtain ⟨⟨y⟩⟩ := b
  by_cases h : x = y
  · subst h; rw [decide_eq_true rfl]; exact beq_self_eq_true _
  · rw [decide_eq_false fun e => h (by injection e with e; injection e)]; exact beq_eq_false_iff_ne.2 h
theorem Xv.seq {t t' : TypeId} {x y : Operand} {a b : ByteArray} (hx : ev env x = some (.string a)) (hy : ev env y = some (.string b)) : Xv X (.binOp .eql t x y t') env s (.bool (decide (a = b))) s := fun tm hf => by
  show xBin X.P .eql t x y (opd tm x) (opd tm y) s = _
  rw [ev_opd hf hx, ev_opd hf hy]
  show okB (a.toList == b.toList) s = _
  rw [beq_str]; cases decide (a = b) <;> rfl
theorem Xv.sne {t t' : TypeId} {x y : Operand} {a b : ByteArray} (hx : ev env x = some (.string a)) (hy : ev env y = some (.string b)) : Xv X (.binOp .neq t x y t') env s (.bool (decide (a ≠ b))) s := fun tm hf => by
  show xBin X.P .neq t x y (opd tm x) (opd tm y) s = _
  rw [ev_opd hf hx, ev_opd hf hy]
  show okB (!(a.toList == b.toList)) s = _
  rw [beq_str, ← decide_not]; cases decide (a ≠ b) <;> rfl
theorem Xv.lenT {x : Operand} {t n t0 : Nat} {z : Option (List Value)} {a : ByteArray} (ht : tk X.B.T t = some ⟨t0, n, .str, z⟩) (hx : ev env x = some (.string a)) : Xv X (.call ⟨.builtin .len, #[x], #[t]⟩) env s (nI a.size) s := fun tm hf => by
  show xLen X.P [t] (opds tm [x]) s = _
  rw [evs_opds hf (xs := [x]) (vs := [.string a]) (by unfold evs; rw [hx]; rfl)]
  have hu : X.P.underlying t = some .string := X.B.un ht
  unfold xLen headT
  simp only [hu]
  unfold okN; rw [fN_eq]
end
end Go.Sy
/-
  The evaluator over any input: a list that grows while its beginning is still held elsewhere.
-/
namespace Go.Sy
open Go Go.Ev
/-- The block b of a colour, grown out of b0 by k + 1 appends; b0 is as it was. -/
structure Anc (s : St) (b0 : Nat) (l0 : List Value) (b γ k : Nat) : Prop where
  an : ∃ pre rest, s.gr.get γ = some (b :: (pre ++ b0 :: rest)) ∧ pre.length = k ∧ b ∉ pre ∧ b ≠ b0 ∧ b ∉ rest ∧ b0 ∉ rest ∧ b0 ∉ pre
  ro : s.hp.get b0 = some (.row l0 γ)
  nz : γ ≠ 0
theorem Anc.row {s : St} {b0 : Nat} {l0 cs : List Value} {b γ k : Nat} (h : Anc s b0 l0 b γ k) (w : Wf s) : Anc (mkRow s cs) b0 l0 b γ k :=
  ⟨h.an, mkRow_kn.kp w b0 _ h.ro id, h.nz⟩
theorem Anc.sl {s : St} {b0 : Nat} {l0 : List Value} {b γ k : Nat} (h : Anc s b0 l0 b γ k) : Sl s (some ⟨b0, 0, none⟩) l0 γ := by
  have hr : Rw s b0 l0 γ := ⟨γ, h.ro, grpOf_pos h.nz⟩
  have := hr.sl (o := 0) (n := l0.length) (by omega)
  rwa [List.drop_zero, List.take_length] at this
theorem others_none {b : Nat} {l : List Nat} (h : b ∉ l) : others b l = l := by
  unfold others
  refine List.filter_eq_self.2 fun m hm => ?_
  cases e : Nat.beq m b with
  | true => exact absurd (Nat.eq_of_beq_eq_true e ▸ hm) h
  | false => rfl
theorem others_cons {b : Nat} {l : List Nat} : others b (b :: l) = others b l := by
  unfold others
  rw [List.filter_cons, Nat.beq_refl]; rfl
theorem keepL_pre {pre rest : List Nat} {b0 : Nat} (h : pre.length < 100) : ∃ rest', keepL (pre ++ b0 :: rest) = pre ++ b0 :: rest' ∧ ∀ m ∈ rest', m ∈ rest := by
  have e1 : (pre ++ b0 :: rest).take 100 = pre ++ b0 :: rest.take (99 - pre.length) := by
    rw [List.take_append, List.take_of_length_le (by omega), show 100 - pre.length = (99 - pre.length) + 1 by omega]; rfl
  have e2 : (pre ++ b0 :: rest).drop 100 = rest.drop (99 - pre.length) := by
    rw [List.drop_append, List.drop_eq_nil_of_le (by omega), List.nil_append, show 100 - pre.length = (99 - pre.length) + 1 by omega]; rfl
  refine ⟨rest.take (99 - pre.length) ++ (rest.drop (99 - pre.length)).drop ((pre ++ b0 :: rest).length - 103), ?_, fun m hm => ?_⟩
  · unfold keepL; rw [e1, e2, List.append_assoc]; rfl
  · rcases List.mem_append.1 hm with h | h
    · exact List.mem_of_mem_take h
    · exact List.mem_of_mem_drop (List.mem_of_mem_drop h)
theorem killL_pre {pre rest : List Nat} {b0 : Nat} (h : pre.length < 100) (h0 : b0 ∉ rest) : b0 ∉ killL (pre ++ b0 :: rest) := fun hm => by
  have h1 := List.mem_of_mem_take hm
  rw [List.drop_append, List.drop_eq_nil_of_le (by omega), List.nil_append, show 100 - pre.length = (99 - pre.length) + 1 by omega] at h1
  exact h0 (List.mem_of_mem_drop (show b0 ∈ rest.drop (99 - pre.length) from h1))
/-- The first append behind an end whose room is not known. -/
theorem anc0 {s : St} (w : Wf s) {b0 g need es : Nat} {l0 new : List Value} (hb : s.hp.get b0 = some (.row l0 g)) (hn : need < 18446744073709551616) :
    ∃ s', extend s b0 g need es l0.length l0 new = .ok (.val (.slice (some ⟨s.nx, 0, none⟩) need (least need es))) s' ∧ s'.hp.get s.nx = some (.row (l0 ++ new) (grpOf g b0)) ∧ s'.nx = s.nx + 1 ∧ Kp (fun c => c = grpOf g b0) s s' ∧ Anc s' b0 l0 s.nx (grpOf g b0) 0 := by
  obtain ⟨s', h1, h2, h3, h4, h5, h6, h7⟩ := extend_ok (need := need) (es := es) (new := new) (rest := []) w (by rw [List.append_nil]; exact hb) hn
  refine ⟨s', h1, h2, h3, h4, ⟨[], keepL (others b0 (membersOf (s.gr.get (grpOf g b0)))), h7, rfl, by simp, ?_, fun h => ?_, fun h => ?_, by simp⟩, h5, ?_⟩
  · have := (w.lt b0 _ hb).1; omega
  · have := (others_mem.1 (keepL_sub h)).1
    cases hq : s.gr.get (grpOf g b0) with
    | none => rw [hq] at this; simp [membersOf] at this
    | some ms => rw [hq] at this; exact absurd (w.mlt _ ms _ hq this) (Nat.lt_irrefl _)
  · exact (others_mem.1 (keepL_sub h)).2 rfl
  · by_cases e : g = 0
    · subst e; have := w.pos b0 _ _ hb; show grpOf 0 b0 ≠ 0; rw [grpOf_zero]; omega
    · rw [grpOf_pos e]; exact e
/-- The next one. -/
theorem anc1 {s : St} (w : Wf s) {b0 b γ k need es : Nat} {l0 cs new : List Value} (ha : Anc s b0 l0 b γ k) (hb : s.hp.get b = some (.row cs γ)) (hl : l0.length ≤ cs.length) (hk : k < 98) (hn : need < 18446744073709551616) :
    ∃ s', extend s b γ need es cs.length cs new = .ok (.val (.slice (some ⟨s.nx, 0, none⟩) need (least need es))) s' ∧ s'.hp.get s.nx = some (.row (cs ++ new) γ) ∧ s'.nx = s.nx + 1 ∧ Kp (fun c => c = γ) s s' ∧ Anc s' b0 l0 s.nx γ (k + 1) := by
  obtain ⟨pre, rest, a1, a2, a3, a4, a5, a6, a7⟩ := ha.an
  have hG : grpOf γ b = γ := grpOf_pos ha.nz
  obtain ⟨s', h1, h2, h3, h4, h5, h6, h7⟩ := extend_ok (need := need) (es := es) (new := new) (rest := []) w (by rw [List.append_nil]; exact hb) hn
  rw [hG] at h2 h4 h5 h6 h7
  have ho : others b (membersOf (s.gr.get γ)) = pre ++ b0 :: rest := by
    rw [a1]; show others b (b :: (pre ++ b0 :: rest)) = _
    rw [others_cons, others_none]
    intro h
    rcases List.mem_append.1 h with h | h
    · exact a3 h
    · rcases List.mem_cons.1 h with h | h
      · exact a4 h
      · exact a5 h
  rw [ho] at h6 h7
  obtain ⟨rest', r1, r2⟩ := keepL_pre (pre := pre) (rest := rest) (b0 := b0) (by omega)
  rw [r1] at h7
  have hlt : ∀ m, m ∈ b :: (pre ++ b0 :: rest) → m < s.nx := fun m hm => w.mlt _ _ m a1 hm
  refine ⟨s', h1, h2, h3, h4, ⟨b :: pre, rest', h7, by rw [List.length_cons, a2], fun h => ?_, fun h => ?_, fun h => ?_, fun h => a6 (r2 _ h), fun h => ?_⟩, ?_, ha.nz⟩
  · have := hlt s.nx (by
    rcases List.mem_cons.1 h with h | h
    · rw [← h]; exact List.mem_cons_self
    · exact List.mem_cons_of_mem _ (List.mem_append_left _ h))
    omega
  · have := hlt b0 (by simp); omega
  · have := hlt s.nx (by simp [r2 _ h]); omega
  · rcases List.mem_cons.1 h with h | h
    · exact a4 h.symm
    · exact a7 h
  · exact h6 b0 (fun e => a4 e.symm) (killL_pre (by omega) a6) l0 γ ha.ro hl
end Go.Sy
