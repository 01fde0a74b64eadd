import Derived.Test.YtdffoghdbfddmaaGreatDoorDazz
import Derived.Test.YtdffoghdbfddmaaGreatDoorWslzz
import Derived.Test.YtdffoghdbfddmaaGreatDoorWanzz
import Derived.Test.YtdffoghdbfddmaaGreatDoorBbzz
import Derived.Test.YtdffoghdbfddmaaGreatDoorLwzz
import Derived.Test.YtdffoghdbfddmaaGreatDoorWgzz
/-
  cairnlaw03.Roomy, cairnlaw03.AsWas, cairnref24.copied.
-/
namespace Go.Sy
open Go Go.Ev
variable {X : Fx} {env : Env} {s : St}
theorem strB_app {A D : List Nat} : strB (A ++ D) = strB A ++ strB D := by
  unfold strB
  rw [List.map_append]
  apply ByteArray.ext
  simp
theorem strB_size {A : List Nat} : (strB A).size = A.length := by
  show (List.toArray (A.map UInt8.ofNat)).size = _
  simp
theorem Xv.sadd {t t' : TypeId} {x y : Operand} {a b : ByteArray} (hx : ev env x = some (.string a)) (hy : ev env y = some (.string b)) (hl : a.size + b.size < 4611686018427387904) : Xv X (.binOp .add t x y t') env s (.string (a ++ b)) s := fun tm hf => by
  show xBin X.P .add t x y (opd tm x) (opd tm y) s = _
  rw [ev_opd hf hx, ev_opd hf hy]
  show ofPure X.P (Op.stringOp .add a b) s = _
  have e : Op.stringOp .add a b = pure (.string (a ++ b)) := by
    unfold Op.stringOp
    have hm : ¬ (((a.size + b.size : Nat) : Int) > IntKind.i64.max) := by
      have : IntKind.i64.max = 9223372036854775807 := by decide
      omega
    simp only [if_neg hm]
  rw [e]; rfl
theorem eqV_str {a : ByteArray} : eqV 5 (.string a) (.string a) = true := by
  obtain ⟨d⟩ := a
  show (d == d) = true
  exact beq_self_eq_true d
end Go.Sy
namespace Go.Proofs.YtdffoghdbfddmaaGreatDoor
open Go Go.Ev Go.Sy
set_option maxRecDepth 100000
variable {s : St} {q r : Option Addr} {c d : Nat} {M N : List Nat}
/-- The marks. -/
def mk4 : List Nat := [85, 170, 85, 170]
/-- Bytes with marks in the room behind. -/
theorem roomy_ok (w : Wf s) (ha : Bs s q M) (hA : M.length < 2 ^ 47 - 1024) :
    Cl B (.call 4 [.slice q M.length c]) s fun v s' => ∃ γ, Own s' v M mk4 γ ∧ Kn s s' ∧ s.nx ≤ γ := by
  refine Cl.enter Tryz.f4 fn4 rfl rfl rfl ?_
  refine run1 ?_
  refine Wo.app rfl rfl rfl rfl rfl rfl rfl rfl rfl (mkRow_wf w) (Gw.mk0 rfl) rfl (ha.kn w mkRow_kn).cells (by simp) one_nB rfl (by omega) (by omega) ?_
  intro q' c' γ' s' h1 h2 h3
  have k1 : Kn s s' := Kn.app mkRow_kn h2 (Nat.le_refl _)
  have w1 := k1.wf w
  have g1 : s.nx ≤ γ' := by
    rcases h3 with h | ⟨h, _⟩
    · exact Nat.le_of_eq h.symm
    · rw [h]; exact Nat.le_succ _
  refine run1 ?_
  refine Wo.app rfl rfl rfl rfl rfl rfl rfl rfl rfl (mkRow_wf w1) (h1.kp w1 (mkRow_kn (cs := [nB 85, nB 170, nB 85, nB 170])) id) rfl (cells_at mkRow_sl.at rfl (by decide)) rfl (by intro v hv; exact one_nB (A := mk4) v hv) rfl (by omega) (by omega) ?_
  intro q2 c2 γ2 s2 j1 j2 j3
  have k2 : Kn s s2 := Kn.app (k1.trans mkRow_kn) j2 g1
  have e : (0 + M.length + 4) = M.length + 4 := by omega
  rw [e] at j1 ⊢
  have j1' : Gw s2 q2 (M.length + 4) c2 1 (M.map nB ++ mk4.map nB) γ2 := j1
  obtain ⟨b, rfl, hr, hcap⟩ := j1'.rw (by omega)
  obtain ⟨hc1, hc2⟩ := cap_ok hcap (by omega)
  refine run1 ?_
  refine Wo.val rfl (Xv.sl0 rfl rfl rfl rfl (by omega) hc2) rfl ?_
  refine run1 ?_
  refine Lv.ret rfl ⟨γ2, ⟨⟨b, c2, rfl, by rw [List.map_append]; exact hr, hc1, hc2⟩, by omega⟩, k2, ?_⟩
  rcases j3 with h | ⟨h, _⟩
  · rw [h]; exact g1
  · rw [h]; exact Nat.le_trans k1.le (Nat.le_succ _)
/-- The reference's copy. -/
theorem copied_ok (w : Wf s) (ha : Bs s q M) (hA : M.length < 2 ^ 47) :
    Cl B (.call 15 [.slice q M.length c]) s fun v s' => ∃ x : Ce, v = x.v ∧ x.A = M ∧ CeOk s' s.nx x ∧ Kn s s' := by
  refine Cl.enter Tryz.f15 fn15 rfl rfl rfl ?_
  refine run1 ?_
  refine Wo.app rfl rfl rfl rfl rfl rfl rfl rfl rfl (mkRow_wf w) (Gw.mk0 rfl) rfl (ha.kn w mkRow_kn).cells (by simp) one_nB rfl (by omega) (by omega) ?_
  intro q' c' γ' s' h1 h2 h3
  refine run1 ?_
  have g1 : s.nx ≤ γ' := by
    rcases h3 with h | ⟨h, _⟩
    · exact Nat.le_of_eq h.symm
    · rw [h]; exact Nat.le_succ _
  rw [Nat.zero_add] at h1
  exact Lv.ret rfl ⟨⟨q', c', γ', M⟩, by show Value.slice q' (0 + M.length) c' = Value.slice q' M.length c'; rw [Nat.zero_add], rfl, ⟨h1, fun _ => g1, hA⟩, Kn.app mkRow_kn h2 (Nat.le_refl _)⟩
/-- The program's. -/
theorem clone_ce (w : Wf s) (ha : Bs s q M) (hA : M.length < 2 ^ 47) :
    Cl B (.call 14 [.slice q M.length c]) s fun v s' => ∃ x : Ce, v = x.v ∧ x.A = M ∧ CeOk s' s.nx x ∧ Kn s s' := by
  refine Cl.enter Tryz.f14 fn14 rfl rfl rfl ?_
  by_cases hq : q = none
  · refine run1 ?_
    subst hq
    have hM := ha.nil_of
    subst hM
    exact Lv.ret rfl ⟨⟨none, 0, s.nx, []⟩, rfl, rfl, ⟨Gw.nil, fun _ => Nat.le_refl _, by show (0 : Nat) < 2 ^ 47; decide⟩, .refl⟩
  · refine run1 ?_
    refine Wo.app rfl rfl rfl rfl rfl rfl rfl rfl rfl (mkRow_wf w) (Gw.mk0 rfl) rfl (ha.kn w mkRow_kn).cells (by simp) one_nB rfl (by omega) (by omega) ?_
    intro q' c' γ' s' h1 h2 h3
    refine run1 ?_
    have g1 : s.nx ≤ γ' := by
      rcases h3 with h | ⟨h, _⟩
      · exact Nat.le_of_eq h.symm
      · rw [h]; exact Nat.le_succ _
    rw [Nat.zero_add] at h1
    exact Lv.ret rfl ⟨⟨q', c', γ', M⟩, by show Value.slice q' (0 + M.length) c' = Value.slice q' M.length c'; rw [Nat.zero_add], rfl, ⟨h1, fun _ => g1, hA⟩, Kn.app mkRow_kn h2 (Nat.le_refl _)⟩
/-- Bytes with marks that are as they were. -/
theorem aswas_ok {v : Value} {γ : Nat} (ho : Own s v M mk4 γ) (hb : Bs s r M) (hM : M.length < 2 ^ 47) :
    Cl B (.call 12 [v, .slice r M.length d]) s fun v s' => v = .bool true ∧ s' = s := by
  obtain ⟨b, c, rfl, hr, hc1, hc2⟩ := ho.ex
  refine Cl.enter Tryz.f12 fn12 rfl rfl rfl ?_
  refine run1 ?_
  refine W.dr [(0, .none, 0), (1, .none, 0), (2, .none, 2), (3, .none, 6), (4, .none, 15), (5, .reads, 31), (6, .none, 0), (7, .reads, 64), (8, .none, 192), (9, .none, 511), (10, .none, 1023)] (by kernel_rfl) rfl ?_
  refine run1 ?_
  refine Wd.val rfl (Xv.sl0 rfl rfl rfl rfl (by rw [hc1]; exact Nat.le_refl _) hc2) rfl (Nat.le_refl _) ?_
  have hL : Bs s (some ⟨b, 0, none⟩) (M ++ mk4) := by
    have := (hr.sl (o := 0) (n := ((M ++ mk4).map nB).length) (by omega)).at
    rwa [List.drop_zero, List.take_length] at this
  have hl4 : M.length + 4 = (M ++ mk4).length := by rw [List.length_append]; rfl
  rw [hl4]
  refine run1 ?_
  refine Wd.read rfl (Xv.b2s rfl rfl rfl rfl hL) rfl eqV_str ⟨Xv.b2s rfl rfl rfl rfl hL, trivial⟩ (run1 ?_)
  refine Wd.read rfl (Xv.b2s rfl rfl rfl rfl hb) rfl eqV_str ⟨Xv.b2s rfl rfl rfl rfl hb, trivial⟩ (run1 ?_)
  refine Wd.val rfl (Xv.sadd rfl rfl (by rw [strB_size]; show M.length + 4 < _; omega)) rfl (Nat.le_refl _) (run1 ?_)
  refine Wd.val rfl (Xv.seq rfl rfl) rfl (Nat.le_refl _) (run1 ?_)
  refine Lv.ret rfl ⟨?_, rfl⟩
  rw [strB_app]
  exact congrArg Value.bool (decide_eq_true rfl)
end Go.Proofs.YtdffoghdbfddmaaGreatDoor
/-
  The closed call, reckoned.
-/
namespace Go.Proofs.YtdffoghdbfddmaaGreatDoor
open Go Go.Ev Go.RowKit
set_option maxRecDepth 1000000 in
theorem whole : isT (run Tryz.prog Dg.hooks 400 (.call 13 []) (.mk (tables Dg.tabs) 1000 .nil)) = true := by kernel_rfl
end Go.Proofs.YtdffoghdbfddmaaGreatDoor
/-
  sha: a block taken into the words.
-/
namespace Go.Proofs.YtdffoghdbfddmaaGreatDoor
open Go Go.Ev Go.Sy
set_option maxRecDepth 100000
/-- The tables, where they lie. -/
def TabAt (s : St) : Prop := ∀ p ∈ Dg.tabs, At s (some ⟨p.1, 0, none⟩) p.2
theorem TabAt.kpN {s0 s : St} (h : TabAt s0) (w : Wf s0) (k : Kp (fun c => s0.nx ≤ c) s0 s) : TabAt s := fun p hp => by
  obtain ⟨γ, h1, h2⟩ := (h p hp).sl
  exact (h1.kp w k (by have := h2 w; omega)).at
abbrev W8 := Dg.W8
def wv (w : W8) : List Value := [.int .u32 (.ofNat w.a), .int .u32 (.ofNat w.b), .int .u32 (.ofNat w.c), .int .u32 (.ofNat w.d), .int .u32 (.ofNat w.e), .int .u32 (.ofNat w.f), .int .u32 (.ofNat w.g), .int .u32 (.ofNat w.h)]
theorem bytesN_map : ∀ {A : List Nat}, (∀ x ∈ A, x < 256) → Dg.bytesN (A.map nB) = some A
  | [], _ => rfl
  | a :: A, h => by
    show (match Dg.bytesN (A.map nB) with | some r => cond (Nat.blt a 256) (some (a :: r)) none | none => none) = _
    rw [bytesN_map fun x hx => h x (List.mem_cons_of_mem _ hx)]
    simp only [show Nat.blt a 256 = true from Nat.ble_eq_true_of_le (h a List.mem_cons_self), cond_true]
theorem nats_wv {w : W8} (h : Dg.Ok8 w) : Dg.nats (wv w) = some [w.a, w.b, w.c, w.d, w.e, w.f, w.g, w.h] := by
  have lt : ∀ {n}, n < 4294967296 → Nat.blt n 4294967296 = true := fun h => Nat.ble_eq_true_of_le h
  unfold wv
  simp only [Dg.nats, lt h.a, lt h.b, lt h.c, lt h.d, lt h.e, lt h.f, lt h.g, lt h.h, cond_true]
theorem eb_ok {w : W8} {A : List Nat} (hl : A.length = 64) : Dg.Ok8 (Dg.eb w A) := by
  have hr : A = (List.range 64).map fun i => A.getD i 0 := by
    apply List.ext_getElem?
    intro i
    rw [List.getElem?_map]
    rcases Nat.lt_or_ge i 64 with hi | hi
    · rw [List.getElem?_range hi, List.getElem?_eq_getElem (by omega), Option.map_some, List.getD_eq_getElem?_getD, List.getElem?_eq_getElem (by omega)]; rfl
    · rw [List.getElem?_eq_none (by omega), List.getElem?_eq_none (by simpa using hi)]; rfl
  rw [hr, Dg.eb_eq]
  exact Dg.fold1_ok _ _
theorem folded_ok {s : St} {w : W8} {A : List Nat} {q : Option Addr} {c : Nat} (hw : Dg.Ok8 w) (hT : TabAt s) (hb : At s q (A.map nB)) (hl : A.length = 64) (hA : ∀ x ∈ A, x < 256) : Cl B (.call 114 [.agg ⟨wv w⟩, .slice q 64 c]) s fun v s' => v = .agg ⟨wv (Dg.eb w A)⟩ ∧ s' = s := by
  have hne : A.map nB ≠ [] := fun e => by have := congrArg List.length e; rw [List.length_map, hl] at this; simp at this
  rcases hb with ⟨e, _⟩ | ⟨b, o, rfl, hr⟩
  · exact absurd e hne
  have ht := hT (2, Dg.KV) (by simp [Dg.tabs])
  rcases ht with ⟨e, _⟩ | ⟨b', o', e, ht⟩
  · cases e
  cases e
  refine Cl.hook (g := Dg.mixH 2) rfl ?_ ⟨rfl, rfl⟩
  rw [List.length_map, hl] at hr
  show cond (Nat.beq 64 64) (Dg.mixN (Dg.nats (wv w)) (Dg.bytesO (readAt s b o 64)) (Dg.sameO (readAt s 2 0 64)) s) .no = _
  rw [hr, show readAt s 2 0 64 = some Dg.KV from ht, nats_wv hw]
  show cond true (Dg.mixN _ (Dg.bytesN (A.map nB)) (sameL Dg.KV Dg.KV) s) .no = _
  rw [bytesN_map hA, show sameL Dg.KV Dg.KV = true by kernel_rfl]
  rfl
end Go.Proofs.YtdffoghdbfddmaaGreatDoor
/-
  The closed call: its hook.
-/
namespace Go.Proofs.YtdffoghdbfddmaaGreatDoor
open Go Go.Ev Go.Sy Go.RowKit
set_option maxRecDepth 100000
theorem hasT_mem : ∀ {l : List (Nat × List Value)} {s : St}, hasT s l = true → ∀ p ∈ l, readAt s p.1 0 p.2.length = some p.2 ∨ p.2 = []
  | [], _, _, p, hp => by cases hp
  | (g, t) :: r, s, h, p, hp => by
    have h' : (sameL (match readAt s g 0 t.length with | some cs => cs | none => []) t && hasT s r) = true := h
    simp only [Bool.and_eq_true] at h'
    rcases List.mem_cons.1 hp with rfl | hp
    · have e := sameL_eq h'.1
      cases hr : readAt s g 0 t.length with
      | none => rw [hr] at e; exact .inr e.symm
      | some cs => rw [hr] at e; exact .inl (congrArg some e)
    · exact hasT_mem h'.2 p hp
theorem fixK_ok {N : Nat} : HookOk N Tryz.prog fixK := by
  intro f g hf args args' s s' v E w h ha hx
  unfold fixK at hf
  cases h1 : Nat.beq f 13 with
  | false => rw [h1] at hf; exact Dg.hooks_ok hf h ha hx
  | true =>
    rw [h1] at hf
    cases hf
    obtain rfl := Nat.eq_of_beq_eq_true h1
    unfold fixH at hx
    split at hx
    case h_2 => cases hx
    cases hT : hasT s Dg.tabs with
    | false => rw [hT] at hx; cases hx
    | true =>
      rw [hT] at hx
      cases hx
      cases ha
      have ht : ∀ p ∈ Dg.tabs, p.1 < 1000 ∧ ∃ c t fr, w.heap[p.1]? = some (.cells c t fr) ∧ ∀ (i : Nat) (v : Value), p.2[i]? = some v → c[i]? = some v ∧ plain 1 v = true := fun p hp => by
        have hlt : p.1 < 1000 := (show ∀ p ∈ Dg.tabs, p.1 < 1000 by decide) p hp
        have hpl : ∀ v ∈ p.2, plain 1 v = true := fun v hv => List.all_eq_true.1 (List.all_eq_true.1 (show (Dg.tabs.all fun p => p.2.all (plain 1)) = true by kernel_rfl) p hp) v hv
        have hne : p.2 ≠ [] := fun e => by
          have : (Dg.tabs.all fun p => !p.2.isEmpty) = true := by kernel_rfl
          have := List.all_eq_true.1 this p hp
          rw [e] at this; cases this
        have hr := (hasT_mem hT p hp).resolve_right hne
        obtain ⟨t', j1, j2⟩ := readAt_cell Tryz.prog h.obs hr
        have e3 : t' = p.2 := VRs.plain_eq (p := plain 1) (fun v v' => plain_eq 1 v v') _ _ (List.all_eq_true.2 hpl) j1
        subst e3
        obtain ⟨i1, i2⟩ := h.base p.1 hlt
        rw [i1, i2] at j2
        have h0 : ∃ v0, p.2[0]? = some v0 := ⟨p.2[0]'(List.length_pos_iff.2 hne), List.getElem?_eq_getElem _⟩
        obtain ⟨v0, hv0⟩ := h0
        have hc0 := j2 0 v0 hv0
        unfold World.cell? at hc0
        split at hc0
        case h_2 => cases hc0
        rename_i c t fr hw
        refine ⟨hlt, c, t, fr, hw, fun i v hv => ⟨?_, hpl v (List.mem_of_getElem? hv)⟩⟩
        have hc := j2 i v hv
        unfold World.cell? at hc
        simp only at hw hc
        rw [hw] at hc
        simpa using hc
      refine (closed Dg.mixed Dg.hooks_ok ht whole).mono fun e w' ⟨he, hb⟩ => ⟨E, _, he, .bool _, stp_below h hb⟩
theorem TabAt.has {s : St} (h : TabAt s) : hasT s Dg.tabs = true := by
  have key : ∀ l : List (Nat × List Value), (∀ p ∈ l, At s (some ⟨p.1, 0, none⟩) p.2) → (l.all fun p => sameL p.2 p.2) = true → hasT s l = true := fun l => by
    induction l with
    | nil => intro _ _; rfl
    | cons p l ih =>
      intro h hs
      obtain ⟨g, t⟩ := p
      have hs' : (sameL t t && l.all fun p => sameL p.2 p.2) = true := hs
      simp only [Bool.and_eq_true] at hs'
      have h1 := h (g, t) List.mem_cons_self
      show (sameL (match readAt s g 0 t.length with | some cs => cs | none => []) t && hasT s l) = true
      rw [ih (fun q hq => h q (List.mem_cons_of_mem _ hq)) hs'.2, Bool.and_true]
      rcases h1 with ⟨_, h1⟩ | ⟨b, o, h1, h2⟩
      · rcases h1 with h1 | ⟨_, _, _, h1⟩ <;> cases h1
      · cases h1; rw [show readAt s g 0 t.length = some t from h2]; exact hs'.1
  exact key _ h (by kernel_rfl)
theorem fixed_ok {s : St} (h : TabAt s) : Cl B (.call 13 []) s fun v s' => v = .bool true ∧ s' = s :=
  Cl.hook (g := fixH) rfl (by show cond (hasT s Dg.tabs) _ _ = _; rw [h.has]; rfl) ⟨rfl, rfl⟩
end Go.Proofs.YtdffoghdbfddmaaGreatDoor
