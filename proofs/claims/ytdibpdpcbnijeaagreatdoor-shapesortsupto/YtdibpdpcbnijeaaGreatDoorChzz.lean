import Derived.Test.YtdibpdpcbnijeaaGreatDoorFkzz
import Derived.Test.YtdibpdpcbnijeaaGreatDoorWslzz
/-
  shape.isGone, slices.IndexFunc, slices.DeleteFunc over entries that were handed out.
-/
namespace Go.Proofs.YtdibpdpcbnijeaaGreatDoor
open Go Go.Ev Go.Sy
set_option maxRecDepth 100000
variable {s s0 : St} {q : Option Addr} {c : Nat}
section
variable {X : Fx} {env : Env} {df : List Deferred} {s : St} {Q : Post} {all os : List Oper} {d : Option Nat} {ty : TypeId} {pos : String} {af : Array Edge} {g : Option (Nat × Bool)}
/-- clear of a list. -/
theorem Wo.clr {x : Operand} {t t0 n0 e t1 size : Nat} {z0 : Option (List Value)} {z : List Value} {ke : Sh} {b o n c γ : Nat} {l : List Value} (hgd : wantsE all env g = some true) (ht : tk X.B.T t = some ⟨t0, n0, .sl e, z0⟩) (he : tk X.B.T e = some ⟨t1, size, ke, some z⟩) (h0 : Nat.blt 0 size = true) (hd : dOk X d = true) (hx : ev env x = some (.slice (some ⟨b, o, none⟩) n c)) (hn : 0 < n) (h1 : ∀ v ∈ z, one v = true) (hr : Rw s b l γ) (hl : o + n * size ≤ l.length)
    (K : ∀ s', Rw s' b (lov l o (List.replicate n z).flatten) γ → s'.nx = s.nx → Kp (fun c => c = γ) s s' → Wo X all os (up d undef env) df s' Q) :
    Wo X all (⟨d, .call ⟨.builtin .clear, #[x], #[t]⟩, ty, pos, af, g⟩ :: os) env df s Q := by
  obtain ⟨gg, hr1, rfl⟩ := hr
  have hz := X.B.zr he
  have hzl : z.length = size := hz.2.1
  have hfl : (List.replicate n z).flatten.length = n * size := by rw [List.length_flatten]; simp [hzl]
  obtain ⟨s', a1, a2, a3, a4⟩ := writeAt_ok hr1 (vs := (List.replicate n z).flatten) (off := o) (by omega) (fun v hv => by
    obtain ⟨y, hy, hv⟩ := List.mem_flatten.1 hv
    rw [List.eq_of_mem_replicate hy] at hv
    exact h1 v hv)
  refine Wo.val hgd (fun tm hf => ?_) hd (K s' ⟨gg, a2, rfl⟩ a3 a4)
  show xClear X.P [t] (opds tm [x]) s = _
  rw [evs_opds hf (xs := [x]) (vs := [.slice (some ⟨b, o, none⟩) n c]) (by unfold evs; rw [hx]; rfl)]
  have hu : X.P.underlying t = some (.slice e) := X.B.un ht
  unfold xClear headT
  simp only [hu]
  rw [show Nat.beq n 0 = false from by cases n with | zero => omega | succ n => rfl]
  show clearB X.P e (some ⟨b, o, none⟩) n s = _
  unfold clearB
  simp only [show zeroCs X.P e = some z from hz.1]
  rw [show Nat.blt 0 z.length = true from by rw [hzl]; exact h0, repO_eq, a1]
  rfl
end
theorem Kp.cut {C : Nat → Prop} {s s' : St} (h : Kp (fun c => C c ∨ s.nx ≤ c) s s') : Kp C s s' := ⟨h.le, h.wf, fun w b o hb hc => h.kp w b o hb fun e => by
  rcases e with e | e
  · exact hc e
  · have := (w.lt b o hb).2; omega⟩
theorem isgone_ok {V : List Nat} {u : Value} {qv : Option Addr} {cv : Nat} (_w : Wf s) :
    Cl B (.call 28 [.agg ⟨[u, .slice qv V.length cv]⟩]) s fun v s' => v = .bool (decide (V.length = 0)) ∧ Kn s s' := by
  refine Cl.enter Tryz.f28 fn28 rfl rfl rfl ?_
  have g1 : good (some (⟨s.nx, 0, none⟩ : Addr)) := ⟨_, _, rfl⟩
  have l1 : ldq (mkRow s [u, .slice qv V.length cv]) (qadd (some ⟨s.nx, 0, none⟩) 1) = some (.slice qv V.length cv) := At.ld mkRow_sl.at (i := 1) (by simp)
  refine run1 ?_
  exact Lv.ret rfl ⟨rfl, mkRow_kn⟩
abbrev gone : Value := .func (.func 28) #[] #[]
/-- Is an entry gone? -/
def gon (p : Ce × Ce) : Bool := decide (p.2.A.length = 0)
theorem ecs_two {M : EC} {i : Nat} {p : Ce × Ce} (h : M[i]? = some p) : ((ecs M).drop (i * 2)).take 2 = [.slice p.1.q p.1.A.length p.1.c, .slice p.2.q p.2.A.length p.2.c] := by
  obtain ⟨h1, h2⟩ := ecs_get h
  have hl := ecs_length M
  have hi : i < M.length := (List.getElem?_eq_some_iff.1 h).1
  rw [List.drop_eq_getElem_cons (by omega), List.drop_eq_getElem_cons (by omega)]
  rw [List.getElem?_eq_getElem (by omega)] at h1 h2
  injection h1 with h1
  injection h2 with h2
  rw [h1, h2]; rfl
theorem ecs_set : ∀ {M : EC} {i : Nat} {p : Ce × Ce}, i < M.length → lov (ecs M) (i * 2) [p.1.v, p.2.v] = ecs (M.set i p)
  | [], i, p, h => by simp at h
  | y :: M, 0, p, _ => rfl
  | y :: M, i + 1, p, h => by
    have ih := ecs_set (M := M) (i := i) (p := p) (by simpa using h)
    have ec : ∀ (z : Ce × Ce) (M : EC), ecs (z :: M) = z.1.v :: z.2.v :: ecs M := fun _ _ => rfl
    unfold lov at ih ⊢
    rw [ec, show (i + 1) * 2 = i * 2 + 1 + 1 by omega, List.take_succ_cons, List.take_succ_cons, List.set_cons_succ, ec, ← ih, show i * 2 + 1 + 1 + [p.1.v, p.2.v].length = i * 2 + [p.1.v, p.2.v].length + 1 + 1 by omega, List.drop_succ_cons, List.drop_succ_cons]
    rfl
theorem index_ok {M : EC} (w : Wf s) (ha : At s q (ecs M)) (hl : M.length < 2 ^ 60) :
    Cl B (.call 35 [.slice q M.length c, gone]) s fun v s' => ((v = .int .i64 (.negSucc 0) ∧ ∀ p ∈ M, gon p = false) ∨ ∃ i, i < M.length ∧ v = nI i ∧ (∀ p ∈ M.take i, gon p = false) ∧ ∃ p, M[i]? = some p ∧ gon p = true) ∧ Kn s s' := by
  refine Cl.enter Tryz.f35 fn35 rfl rfl rfl ?_
  refine run1 ?_
  refine W.loop (α := Nat × St) (fun p => [(0, .slice q M.length c), (1, gone), (7, nI M.length), (8, nI p.1)]) (fun _ => []) (fun p => p.2)
    (fun p => p.1 ≤ M.length ∧ Kn s p.2 ∧ ∀ x ∈ M.take p.1, gon x = false) (fun p => M.length - p.1) (0, s) ⟨Nat.zero_le _, .refl, by simp⟩ (.cons rfl (.cons rfl (.cons rfl (.cons rfl .nil)))) rfl rfl (by show M.length - 0 < _; omega) ?_
  rintro ⟨i, s1⟩ ⟨k1, k2, k3⟩
  dsimp only at k1 k2 k3 ⊢
  have w1 := k2.wf w
  by_cases hi : i < M.length
  · obtain ⟨p, hp⟩ := at_lt hi
    have ha1 := ha.kn w k2
    have hel := ecs_length M
    have d1 : ldn s1 (qadd q (i * 2)) 2 = some [.slice p.1.q p.1.A.length p.1.c, .slice p.2.q p.2.A.length p.2.c] := by rw [At.ldn ha1 (by omega) (by decide), ecs_two hp]
    have gq : good q := At.good ha1 (i := i * 2) (by omega)
    refine run1 ?_
    refine Wo.call rfl (Xc.callv rfl ok28 rfl) rfl ((isgone_ok w1).mono ?_)
    rintro v s2 ⟨rfl, kn2⟩
    by_cases hg : p.2.A.length = 0
    · refine run1 ?_
      exact Lv.ret rfl ⟨.inr ⟨i, hi, rfl, k3, p, hp, decide_eq_true hg⟩, k2.trans kn2⟩
    · refine run1 ?_
      refine rnd.n (i + 1, s2) ⟨hi, k2.trans kn2, fun x hx => ?_⟩ (by show M.length - (i + 1) < M.length - i; omega) (.cons rfl (.cons rfl (.cons rfl (.cons rfl .nil)))) rfl rfl
      dsimp only at hx
      rw [(take_at hp).2.1] at hx
      rcases List.mem_append.1 hx with hx | hx
      · exact k3 x hx
      · rw [List.mem_singleton] at hx; subst hx; exact decide_eq_false hg
  · refine run1 ?_
    refine Lv.ret rfl ⟨.inl ⟨rfl, ?_⟩, k2⟩
    rwa [List.take_of_length_le (by omega)] at k3
set_option maxHeartbeats 800000 in
theorem delf_ok {M : EC} {lo n γ : Nat} (w : Wf s) (R : Res lo s q n c γ M) (hl : n < 2 ^ 40) :
    Cl B (.call 27 [.slice q n c, gone]) s fun v s' => ∃ c', v = .slice q (M.filter fun p => !gon p).length c' ∧ At s' q (ecs (M.filter fun p => !gon p)) ∧ Kp (fun c => (q ≠ none ∧ c = γ)) s s' := by
  have hn := R.len
  subst hn
  have hel := ecs_length M
  refine Cl.enter Tryz.f27 fn27 rfl rfl rfl ?_
  refine run1 ?_
  refine Wo.call rfl (Xc.call ok35 rfl) rfl ((index_ok w R.at (by omega)).mono ?_)
  rintro v s1 ⟨hv, kn1⟩
  have w1 := kn1.wf w
  rcases hv with ⟨rfl, hall⟩ | ⟨i, hi, rfl, hpre, p0, hp0, hg0⟩
  · have hf : M.filter (fun p => !gon p) = M := List.filter_eq_self.2 fun p hp => by rw [hall p hp]; rfl
    have hm : Int.negSucc 0 = Int.negSucc 0 := rfl
    refine run1 ?_
    exact Lv.ret rfl ⟨c, by rw [hf]; rfl, by rw [hf]; exact R.at.kn w kn1, kn1.mono fun _ e => e.elim⟩
  · have hm : ¬ (Int.ofNat i = Int.negSucc 0) := fun h => by cases h
    have R1 := R.kn w kn1
    obtain ⟨b, hQ, hrw, hcap⟩ := R1.gw.rw (by omega)
    subst hQ
    have gb : good (some (⟨b, 0, none⟩ : Addr)) := ⟨_, _, rfl⟩
    have hft : (M.take i).filter (fun p => !gon p) = M.take i := List.filter_eq_self.2 fun p hp => by rw [hpre p hp]; rfl
    have hγ : γ < s.nx := R.gw.ltn w (fun h => by cases h)
    refine run1 ?_
    have hzero : ∀ v ∈ [Value.slice none 0 0, Value.slice none 0 0], one v = true := by intro v hv; simp only [List.mem_cons, List.not_mem_nil, or_false] at hv; rcases hv with rfl | rfl <;> rfl
    have hf0 : (M.take (i + 1)).filter (fun p => !gon p) = M.take i := by
      rw [(take_at hp0).2.1, List.filter_append, hft, show [p0].filter (fun p => !gon p) = [] by simp [hg0], List.append_nil]
    refine W.loop (α := Nat × Nat × St × EC) (fun p => [(0, .slice (some ⟨b, 0, none⟩) M.length c), (1, gone), (5, nI p.1), (6, nI p.2.1)]) (fun _ => []) (fun p => p.2.2.1)
      (fun p => p.1 < p.2.1 ∧ p.2.1 ≤ M.length ∧ p.2.2.2.length = M.length ∧ Rw p.2.2.1 b (ecs p.2.2.2) γ ∧ p.2.2.2.take p.1 = (M.take p.2.1).filter (fun p => !gon p) ∧ p.2.2.2.drop p.2.1 = M.drop p.2.1 ∧ Kp (fun c => c = γ ∨ s.nx ≤ c) s p.2.2.1)
      (fun p => M.length - p.2.1) (i, i + 1, s1, M) ⟨Nat.lt_succ_self _, hi, rfl, hrw, hf0.symm, rfl, kn1.mono fun _ e => e.elim⟩ (.cons rfl (.cons rfl (.cons rfl (.cons rfl .nil)))) rfl rfl (by show M.length - (i + 1) < _; omega) ?_
    rintro ⟨t, j, s2, L⟩ ⟨k1, k2, k3, k4, k5, k6, k7⟩
    dsimp only at k1 k2 k3 k4 k5 k6 k7 ⊢
    have w2 := k7.wf w
    have hLe := ecs_length L
    have AL : At s2 (some ⟨b, 0, none⟩) (ecs L) := by
      have := (k4.sl (o := 0) (n := (ecs L).length) (by omega)).at
      rwa [List.drop_zero, List.take_length] at this
    by_cases hj : j < M.length
    · obtain ⟨p, hp⟩ := at_lt hj
      have hpL : L[j]? = some p := by
        have : (L.drop j)[0]? = (M.drop j)[0]? := by rw [k6]
        rw [List.getElem?_drop, List.getElem?_drop] at this
        rw [Nat.add_zero] at this; rw [this]; exact hp
      have d1 : ldn s2 (qadd (some ⟨b, 0, none⟩) (j * 2)) 2 = some [.slice p.1.q p.1.A.length p.1.c, .slice p.2.q p.2.A.length p.2.c] := by rw [At.ldn AL (by omega) (by decide), ecs_two hpL]
      refine run1 ?_
      refine Wo.st rfl rfl rfl rfl rfl rfl rfl (by intro v hv; simp only [List.mem_cons, List.not_mem_nil, or_false] at hv; rcases hv with rfl | rfl <;> rfl) mkRow_rw (by decide) ?_
      intro s3 a1 a2 a3
      have kn3 : Kn s2 s3 := Kn.app mkRow_kn a3 (Nat.le_refl _)
      have w3 := kn3.wf w2
      have R3 : Rw s3 s2.nx [.slice p.1.q p.1.A.length p.1.c, .slice p.2.q p.2.A.length p.2.c] s2.nx := a1
      have A3 : At s3 (some ⟨s2.nx, 0, none⟩) [.slice p.1.q p.1.A.length p.1.c, .slice p.2.q p.2.A.length p.2.c] := by have := (R3.sl (o := 0) (n := 2) (by simp)).at; exact this
      have dx : ldn s3 (some ⟨s2.nx, 0, none⟩) 2 = some [.slice p.1.q p.1.A.length p.1.c, .slice p.2.q p.2.A.length p.2.c] := A3.ldn (i := 0) (n := 2) (by simp) (by decide)
      refine run1 ?_
      refine Wo.call rfl (Xc.callv rfl ok28 rfl) rfl ((isgone_ok w3).mono ?_)
      rintro v s4 ⟨rfl, kn4⟩
      have w4 := kn4.wf w3
      have dx4 : ldn s4 (some ⟨s2.nx, 0, none⟩) 2 = some [.slice p.1.q p.1.A.length p.1.c, .slice p.2.q p.2.A.length p.2.c] := (A3.kn w3 kn4).ldn (i := 0) (n := 2) (by simp) (by decide)
      have R4 : Rw s4 b (ecs L) γ := (k4.kp w2 kn3 id).kp w3 kn4 id
      have K4 : Kp (fun c => c = γ ∨ s.nx ≤ c) s s4 := (k7.trans (kn3.mono fun _ e => e.elim)).trans (kn4.mono fun _ e => e.elim)
      have hdr : L.drop (j + 1) = M.drop (j + 1) := by rw [← List.drop_drop, ← List.drop_drop, k6]
      by_cases hg : p.2.A.length = 0
      · refine run1 ?_
        refine rnd.n (t, j + 1, s4, L) ⟨by show t < j + 1; omega, hj, k3, R4, ?_, hdr, K4⟩ (by show M.length - (j + 1) < M.length - j; omega) (.cons rfl (.cons rfl (.cons rfl (.cons rfl .nil)))) rfl rfl
        show L.take t = (M.take (j + 1)).filter (fun p => !gon p)
        rw [(take_at hp).2.1, List.filter_append, ← k5, show [p].filter (fun p => !gon p) = [] by simp [show gon p = true from decide_eq_true hg], List.append_nil]
      · refine run1 ?_
        have hbt : t < M.length := by omega
        refine Wo.st rfl rfl rfl rfl rfl rfl rfl (by intro v hv; simp only [List.mem_cons, List.not_mem_nil, or_false] at hv; rcases hv with rfl | rfl <;> rfl) R4 (by show 0 + t * 2 + 2 ≤ (ecs L).length; omega) ?_
        intro s5 b1 b2 b3
        have b1' : Rw s5 b (lov (ecs L) (0 + t * 2) [p.1.v, p.2.v]) γ := b1
        rw [Nat.zero_add, ecs_set (by omega)] at b1'
        refine run1 ?_
        refine rnd.n (t + 1, j + 1, s5, L.set t p) ⟨by show t + 1 < j + 1; omega, hj, by show (L.set t p).length = M.length; rw [List.length_set]; exact k3, b1', ?_, ?_, K4.trans (b3.mono fun c h => .inl h)⟩ (by show M.length - (j + 1) < M.length - j; omega) (.cons rfl (.cons rfl (.cons rfl (.cons rfl .nil)))) rfl rfl
        · show (L.set t p).take (t + 1) = (M.take (j + 1)).filter (fun p => !gon p)
          have e0 : (L.set t p).take (t + 1) = L.take t ++ [p] := by
            rw [List.take_add_one, List.getElem?_set_self (by omega), List.take_set_of_le (Nat.le_refl _)]; rfl
          rw [e0, (take_at hp).2.1, List.filter_append, ← k5, show [p].filter (fun p => !gon p) = [p] by simp [show gon p = false from decide_eq_false hg]]
        · show (L.set t p).drop (j + 1) = M.drop (j + 1)
          rw [List.drop_set_of_lt (by omega), hdr]
    · refine run1 ?_
      have hje : j = M.length := by omega
      subst hje
      rw [List.take_length] at k5
      have hcap1 : capOf c = M.length ∧ (capSure c = true → c = sure (capOf c)) := by
        rcases hcap with rfl | rfl
        · obtain ⟨a1, a2, a3⟩ := cap_least (n := M.length) (es := 2) (by omega)
          exact ⟨a1, fun h => by rw [a2] at h; cases h⟩
        · exact ⟨cap_sure.1, fun _ => by rw [cap_sure.1]⟩
      have G2 : Gw s2 (some ⟨b, 0, none⟩) M.length c 2 (ecs L) γ := by
        obtain ⟨g, h1, h2⟩ := k4
        exact ⟨by omega, .inr ⟨b, g, rfl, h1, h2, hcap⟩⟩
      refine Wo.slLoB rfl rfl rfl rfl rfl rfl G2 k1 (by omega) ?_
      intro c'
      refine Wo.clr rfl rfl rfl rfl rfl rfl (by omega) hzero k4 (by omega) ?_
      intro s3 a1 a2 a3
      refine run1 ?_
      refine Wo.val rfl (Xv.sl0 rfl rfl rfl rfl (by rw [hcap1.1]; omega) hcap1.2) rfl ?_
      refine run1 ?_
      have hlen : (M.filter fun p => !gon p).length = t := by rw [← k5, List.length_take]; omega
      refine Lv.ret rfl ⟨c, by rw [hlen]; rfl, ?_, ?_⟩
      · have := (a1.sl (o := 0) (n := t * 2) (by
          rw [lov_length (by rw [List.length_flatten]; simp; omega)]; omega)).at
        rw [List.drop_zero] at this
        have e0 : (lov (ecs L) (0 + t * 2) (List.replicate (M.length - t) [Value.slice none 0 0, Value.slice none 0 0]).flatten).take (t * 2) = ecs (M.filter fun p => !gon p) := by
          unfold lov
          rw [Nat.zero_add, List.take_append_of_le_length (by rw [List.length_take]; omega), List.take_take, Nat.min_self, ← k5]
          have ht : ∀ (t : Nat) (L : EC), (ecs L).take (t * 2) = ecs (L.take t) := fun t => by
            induction t with
            | zero => intro L; rfl
            | succ t ih => intro L; cases L with
              | nil => rfl
              | cons x L =>
                show List.take ((t + 1) * 2) (x.1.v :: x.2.v :: ecs L) = x.1.v :: x.2.v :: ecs (L.take t)
                rw [show (t + 1) * 2 = t * 2 + 1 + 1 by omega, List.take_succ_cons, List.take_succ_cons, ih]
          exact ht t L
        rw [e0] at this
        exact this
      · refine Kp.mono (Kp.cut (k7.trans (a3.mono fun c h => .inl h))) fun c h => ⟨fun h' => (by cases h'), h⟩
end Go.Proofs.YtdibpdpcbnijeaaGreatDoor
