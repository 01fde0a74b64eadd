import Derived.Test.YtcnhinnpieehoaaGreatDoorRrzz
namespace Go.Sy
open Go Go.Ev
section
variable {X : Fx} {env : Env} {df : List Deferred} {s : St} {Q : Post} {all os : List Oper} {ty : TypeId} {pos : String} {af : Array Edge} {g : Option (Nat × Bool)}
theorem Wo.dfrC {f : FuncId} {x : Operand} {args : Array Operand} {ts : Array TypeId} {vs ys : List Value} (hg : wantsE all env g = some true) (hrd : X.rd = none) (hx : ev env x = some (.func (.func f) #[] ⟨ys⟩)) (ha : evs env args.toList = some vs)
  (k : Wo X all os env (⟨.fn (.func f) ⟨ys⟩, ⟨vs⟩⟩ :: df) s Q) : Wo X all (⟨none, .defer ⟨.value x, args, ts⟩, ty, pos, af, g⟩ :: os) env df s Q := by
 constructor; intro tm hf
 have hx : exec X.P (.defer ⟨.value x, args, ts⟩) tm s = .ok (.defer ⟨.fn (.func f) ⟨ys⟩, ⟨vs⟩⟩) s := by
  show (match opd tm x with | .func (.func g) x y => Re.ok (.defer ⟨.fn (.func g) y, ⟨appO x.toList (opds tm args.toList)⟩⟩) s | _ => .no) = _
  rw [ev_opd hf hx]
  simp only
  rw [evs_opds hf ha, appO_eq]
  rfl
 have ho : ∀ rec, oper X.P rec X.rd all ⟨none, .defer ⟨.value x, args, ts⟩, ty, pos, af, g⟩ (.mk X.nt tm df) s = .ok (.mk X.nt tm (⟨.fn (.func f) ⟨ys⟩, ⟨vs⟩⟩ :: df)) s := fun rec => by
  unfold oper
  simp only [wants_ok hf hg, hx, after, hrd]
  rfl
 obtain ⟨e, env', tm', df', s2, k1, k2, k3⟩ := (k).w tm hf
 exact ⟨e, env', tm', df', s2, k1.mono fun m a => by dsimp only at a; show asN (thenO (oper _ _ _ _ _ _ _) _) = _; rw [ho]; exact a, k2, k3⟩
theorem Wo.rcv {d : Option Nat} {ts : Array TypeId} (hg : wantsE all env g = some true) (hrd : X.rd = none) (hd : dOk X d = true) (k : Wo X all os (up d .nilIface env) df s Q) : Wo X all (⟨d, .call ⟨.builtin .recover, #[], ts⟩, ty, pos, af, g⟩ :: os) env df s Q := by
 constructor; intro tm hf
 have hx : exec X.P (.call ⟨.builtin .recover, #[], ts⟩) tm s = .ok .recover s := rfl
 obtain ⟨tm1, hp, hf1⟩ := put_ok (X := X) (df := df) hd hf .nilIface
 have ho : ∀ rec, oper X.P rec X.rd all ⟨d, .call ⟨.builtin .recover, #[], ts⟩, ty, pos, af, g⟩ (.mk X.nt tm df) s = .ok (.mk X.nt tm1 df) s := fun rec => by
  unfold oper
  simp only [wants_ok hf hg, hx, after, hrd, hp]
  rfl
 obtain ⟨e, env', tm', df', s2, k1, k2, k3⟩ := (k).w tm1 hf1
 exact ⟨e, env', tm', df', s2, k1.mono fun m a => by dsimp only at a; show asN (thenO (oper _ _ _ _ _ _ _) _) = _; rw [ho]; exact a, k2, k3⟩
theorem Xv.mkF {f : FuncId} {y : Array Operand} {ys : List Value} (hy : evs env y.toList = some ys) : Xv X (.makeFunc (.func f) #[] y) env s (.func (.func f) #[] ⟨ys⟩) s := fun tm hf => by
 show Re.ok (.val (.func (.func f) ⟨opds tm []⟩ ⟨opds tm y.toList⟩)) s = _
 rw [evs_opds hf hy]
 rfl
end
theorem Cl.enterN {B : Bx} {f : FuncId} (fn : Func) {g : List Value → St → Rv} {c : Code} {args : List Value} {s : St} {Q : Value → St → Prop} (hf : B.P.funcs[f]? = some fn) (hk : B.hook f = some g) (hg : g args s = .no) (hb : fn.body = some c) (hn : entOk fn args.length = true)
  (h : W ⟨B, f, none, fn.ntmps⟩ c (argsE args 0) [] s (Lv B fn.results.toList Q)) : Cl B (.call f args) s Q := by
 obtain ⟨v, s', ⟨n, h1⟩, h2⟩ := Cl.late fn hf hb hn h
 refine ⟨v, s', ⟨n + 1, fun m hm => ?_⟩, h2⟩
 obtain ⟨m, rfl⟩ : ∃ k, m = k + 1 := ⟨m - 1, by omega⟩
 have h3 := h1 (m + 1) (by omega)
 show (match B.hook f with | some h => orElse (h args s) (Ev.enter B.P (run B.P B.hook m) f args) s | none => Ev.enter B.P (run B.P B.hook m) f args s) = _
 rw [hk]
 show orElse (g args s) _ s = _
 rw [hg]
 exact h3
end Go.Sy
namespace Go.Proofs.YtcnhinnpieehoaaGreatDoor
open Go Go.Ev Go.Sy
set_option maxRecDepth 100000
variable {s s0 : St} {p γ δ n c m N d : Nat} {q : Option Addr} {A D F : List Nat} {L cs : List Value}
theorem cell_one {B : Bx} {t n t0 : Nat} {k : Sh} {z : Option (List Value)} {b γ : Nat} {v : Value} (ht : tk B.T t = some ⟨t0, n, k, z⟩) (hk : k.one = true) (h : Rw s b [v] γ) : cell1 B.P (.pointer (some ⟨b, 0, none⟩)) t s = some v := by
 show loadG B.P s t b 0 (isAggT B.P t) = _
 rw [B.ag ht, hk]
 exact Rw.rd1 h rfl
theorem rdL_end {f : Nat → Nat → Nz.Rd} {e : Nat} {x : Nz.It} {z : Nat} : ∀ {n a : Nat} {acc : List Nz.It}, Nz.rdL f n a e acc = .ok x z → z = e
 | 0, _, _, h => by cases h; rfl
 | n + 1, a, acc, h => by
  rw [Nz.rdL] at h
  split at h
  ·split at h
   ·cases h
   ·exact rdL_end h
  ·cases h; rfl
set_option maxHeartbeats 1600000 in
theorem ritem_step {b o : Nat} {l : List Nat} (hsub : d ≠ 0 → Rdr b o l (d - 1)) (hd : d ≤ 80) (hb : ∀ x ∈ l, x < 256) (hl : l.length ≤ 1048576) : Rdr b o l d := by
 intro s p e c x z w0 h hc hp he hr
 refine Cl.enter Tryz.f69 fn69 rfl rfl rfl ?_
 refine run1 ?_
 refine mk_gen (cs := z3) (M := fun s' => W _ _ _ _ s' _) fun s1 r1 n1 k1 => ?_
 have w1 : Wf s1 := k1.wf w0
 have hB : Bs s1 (some ⟨b, o, none⟩) l := h.kn w0 k1
 have hx := mem_getD hb p
 rw [Nz.rd_eq] at hr
 have hpe : ¬ p = e := fun h => by rw [if_pos h] at hr; cases hr
 rw [if_neg hpe] at hr
 have hlt : p < e := by omega
 obtain ⟨y, hy⟩ : ∃ y, y = l.getD p 0 := ⟨_, rfl⟩
 have hgd : Nz.gd l p = y := hy.symm
 rw [hgd] at hr
 rw [← hy] at hx
 refine run1 ?_
 rw [← hy]
 by_cases h1 : y < 128
 ·rw [if_pos h1] at hr
  cases hr
  refine run1 ?_
  refine mkO (cs := [nB y]) fun s2 r2 n2 k2 => ?_
  have w2 : Wf s2 := k2.wf w1
  refine run1 ?_
  refine Wo.st rfl rfl rfl rfl rfl rfl rfl (by intro v hv; simp at hv; rcases hv with rfl | rfl | rfl <;> rfl) (r1.kp w1 k2 id) (by decide) fun s3 r3 n3 k3 => ?_
  have r3' : Rw s3 s.nx [.bool false, .slice (some ⟨s1.nx, 0, none⟩) 1 (sure 1), .slice none 0 0] s.nx := r3
  have w3 : Wf s3 := k3.wf w2
  refine run1 ?_
  have hcl := cell_at (B := B) (t := 87) rfl rfl r3' rfl rfl
  have e1 := k1.le
  have fin : ImK s3 (fun c => c < s.nx) (d + 1) [.bool false, .slice (some ⟨s1.nx, 0, none⟩) [y].length (sure 1), .slice none 0 0] := im_str (A := [y]) (γ := s1.nx) w3 ((r2.kp w2 k3 (by omega)).sl (o := 0) (n := 1) (Nat.le_refl _)) (by show ¬ s1.nx < s.nx; omega) (by omega) (by simp) (fun x hx => by rw [List.mem_singleton.1 hx]; exact ‹y < 256›)
  refine Lv.ret (vs := [.agg ⟨[.bool false, .slice (some ⟨s1.nx, 0, none⟩) 1 (sure 1), .slice none 0 0]⟩, nI (p + 1)]) ?_ ⟨_, rfl, fin, (k1.call k2).app k3 (Nat.le_refl _)⟩
  show (match cell1 B.P (.pointer (some ⟨s.nx, 0, none⟩)) 87 s3, some [nI (p + 1)] with | some v, some vs => some (v :: vs) | _, _ => none) = _
  rw [hcl]
 ·rw [if_neg h1] at hr
  by_cases h2 : y < 192
  ·rw [if_pos h2] at hr
   have h2' : ¬ 192 ≤ y := by omega
   cases hh : Nz.rdHead l p e (y - 128) with
   | bad c => rw [hh] at hr; cases hr
   | ok a z' =>
    rw [hh] at hr
    have h3 : ¬ (z' = a + 1 ∧ Nz.gd l a < 128) := fun h => by simp only [if_pos h] at hr; cases hr
    simp only [if_neg h3] at hr
    cases hr
    obtain ⟨q1, q2, q3, q4, _⟩ := Nz.rdHead_ok (base := 128) hb he hlt (show Nz.gd l p = 128 + (y - 128) by rw [hgd]; omega) (by omega) hh
    refine run1 ?_
    refine Wo.call rfl (Xc.call ok102 rfl) rfl ((rhead_ok (base := 128) hB hb he hc (by omega) hlt (by rw [← hy]; omega) (by rw [← hy]; omega) (by rw [← hy]; exact hh)).mono ?_)
    rintro v s' ⟨rfl, e'⟩; rw [e']; clear e' s'
    refine run1 ?_
    refine Wo.slLH rfl rfl rfl rfl rfl rfl rfl (Nat.le_trans (by omega) hc.2.1) q2 hc.2.2 hB (by rw [List.length_map]; omega) fun q' c' hq => ?_
    rw [Nat.mul_one, Nat.mul_one, ← List.map_drop, ← List.map_take] at hq
    obtain ⟨D, hD⟩ : ∃ D, D = (l.drop a).take (z - a) := ⟨_, rfl⟩
    have hDl : D.length = z - a := by rw [hD, List.length_take, List.length_drop]; omega
    have hDb : ∀ x ∈ D, x < 256 := fun x hx => hb x (List.mem_of_mem_drop (List.mem_of_mem_take (hD ▸ hx)))
    rw [← hD] at hq
    rw [← hDl]
    refine run1 ?_
    refine Wo.call rfl (Xc.call ok90 rfl) rfl ((alone_ok hq (by omega)).mono ?_)
    rintro v s' ⟨rfl, e'⟩; rw [e']; clear e' s'
    have h4 : ¬ (D.length = 1 ∧ D.getD 0 0 < 128) := fun ⟨k1, k2⟩ => h3 ⟨by omega, by
     rw [hD, List.getD_eq_getElem?_getD, List.getElem?_take, if_pos (by omega), List.getElem?_drop] at k2
     unfold Nz.gd
     rw [List.getD_eq_getElem?_getD]
     exact k2⟩
    refine run1 ?_
    refine Wo.slLH rfl rfl rfl rfl rfl rfl rfl (Nat.le_trans (by omega) hc.2.1) q2 hc.2.2 hB (by rw [List.length_map]; omega) fun q'' c'' hq' => ?_
    rw [Nat.mul_one, Nat.mul_one, ← List.map_drop, ← List.map_take, ← hD] at hq'
    rw [← hDl]
    refine run1 ?_
    refine Wo.call rfl (Xc.call ok26 rfl) rfl ((clone_ok w1 hq' (by omega)).mono ?_)
    rintro v s2 ⟨qn, cn, γn, rfl, gn, k2, hγ⟩
    have w2 : Wf s2 := k2.wf w1
    refine run1 ?_
    refine Wo.st rfl rfl rfl rfl rfl rfl rfl (by intro v hv; simp at hv; rcases hv with rfl | rfl | rfl <;> rfl) (r1.kp w1 k2 id) (by decide) fun s3 r3 n3 k3 => ?_
    have r3' : Rw s3 s.nx [.bool false, .slice qn D.length cn, .slice none 0 0] s.nx := r3
    have w3 : Wf s3 := k3.wf w2
    refine run1 ?_
    have hcl := cell_at (B := B) (t := 87) rfl rfl r3' rfl rfl
    have e1 := k1.le
    have e2 := k2.le
    obtain ⟨γ', sl', hn1, hn2⟩ : ∃ γ', Sl s3 qn (D.map nB) γ' ∧ s.nx ≤ γ' ∧ γ' < s3.nx := by
     cases hqn : qn with
     | none =>
      rcases gn.at' with ⟨_, h0, _⟩ | ⟨_, _, h0, _⟩
      ·exact ⟨s.nx, .inl ⟨by rw [List.map_eq_nil_iff]; exact List.eq_nil_of_length_eq_zero h0, .inl rfl⟩, Nat.le_refl _, by omega⟩
      ·rw [hqn] at h0; cases h0
     | some a =>
      have hlt := gn.ltq w2 (by rw [hqn]; exact fun h => by cases h)
      rw [hqn] at gn
      exact ⟨γn, (gn.kp w2 k3 (by omega)).sl, by omega, by omega⟩
    have fin : ImK s3 (fun c => c < s.nx) (d + 1) [.bool false, .slice qn D.length cn, .slice none 0 0] := im_str w3 sl' (by show ¬ γ' < s.nx; omega) hn2 (by omega) hDb
    refine Lv.ret (vs := [.agg ⟨[.bool false, .slice qn D.length cn, .slice none 0 0]⟩, nI z]) ?_ ⟨_, rfl, fin, (k1.call k2).app k3 (Nat.le_refl _)⟩
    show (match cell1 B.P (.pointer (some ⟨s.nx, 0, none⟩)) 87 s3, some [nI z] with | some v, some vs => some (v :: vs) | _, _ => none) = _
    rw [hcl]
  ·rw [if_neg h2] at hr
   have h2' : 192 ≤ y := by omega
   have hd0 : d ≠ 0 := fun h => by rw [if_pos h] at hr; cases hr
   rw [if_neg hd0] at hr
   cases hh : Nz.rdHead l p e (y - 192) with
   | bad c => rw [hh] at hr; cases hr
   | ok a z' =>
    rw [hh] at hr
    simp only at hr
    obtain rfl := rdL_end hr
    obtain ⟨q1, q2, q3, q4, _⟩ := Nz.rdHead_ok (base := 192) hb he hlt (show Nz.gd l p = 192 + (y - 192) by rw [hgd]; omega) (by omega) hh
    have e80 : 80 - d = 79 - (d - 1) := by omega
    have hrl := rlist_ok (d := d - 1) (p := p) (hsub hd0) (by omega) w1 hB hb hc hl hlt he (by rw [← hy]; exact h2') (by rw [← hy]; exact hh) q2 q3 hr
    rw [← e80, show d - 1 + 2 = d + 1 by omega] at hrl
    refine run1 ?_
    refine Wo.call rfl (Xc.call ok101 rfl) rfl (hrl.mono ?_)
    rintro v s2 ⟨cs, rfl, hcs, k2⟩
    have w2 : Wf s2 := k2.wf w1
    have hcs3 := (hcs s2 .refl).len
    refine run1 ?_
    refine Wo.st rfl rfl rfl rfl rfl rfl hcs3.1 hcs3.2 (r1.kp w1 k2 id) (by decide) fun s3 r3 n3 k3 => ?_
    rw [lov_all (by rw [hcs3.1]; rfl)] at r3
    refine run1 ?_
    have hcl := cell_at (B := B) (t := 87) rfl rfl r3 hcs3.1 rfl
    have e1 := k1.le
    refine Lv.ret (vs := [.agg ⟨cs⟩, nI z]) ?_ ⟨cs, rfl, hcs.step (k3.mono fun c h => .inl (by omega)) fun c hc => .inl (by show c < s1.nx; omega), (k1.call k2).app k3 (Nat.le_refl _)⟩
    show (match cell1 B.P (.pointer (some ⟨s.nx, 0, none⟩)) 87 s3, some [nI z] with | some v, some vs => some (v :: vs) | _, _ => none) = _
    rw [hcl]
theorem Im.kpN (w : Wf s0) (k : Kp (fun c => s0.nx ≤ c) s0 s) : ∀ {d : Nat} {cs : List Value}, Im s0 d cs → Im s d cs
 | 0, _, h => absurd h id
 | d + 1, cs, h => by
  rcases h with ⟨q, c, b, e, h1, h2, h3⟩ | ⟨q, c, css, e, h1, h2, h3⟩
  ·exact .inl ⟨q, c, b, e, At.kpN h1 w k, h2, h3⟩
  ·exact .inr ⟨q, c, css, e, At.kpN h1 w k, h2, fun x hx => ⟨(h3 x hx).1, Im.kpN w k (h3 x hx).2⟩⟩
theorem Im.kn {s' : St} (h : Im s d cs) (w : Wf s) (k : Kn s s') : Im s' d cs := Im.kpN w (k.w) h
theorem ritem_ok {b o : Nat} {l : List Nat} (hb : ∀ x ∈ l, x < 256) (hl : l.length ≤ 1048576) : ∀ d, d ≤ 80 → Rdr b o l d
 | 0, hd => ritem_step (fun h => absurd rfl h) hd hb hl
 | d + 1, hd => ritem_step (fun _ => ritem_ok hb hl d (by omega)) hd hb hl
theorem nil_ne : pureRun Tryz.prog (do eqGuard .neq 20 (.tmp 6) (.const .nilIface) .nilIface .nilIface; binOp .neq 20 .nilIface .nilIface) = some (.bool false) := by kernel_rfl
theorem dlate_ok {v1 v2 v3 : Value} : Cl B (.late 67 [v1, v2, v3]) s fun _ s' => s' = s := by
 refine Cl.late Tryz.f67 fn67 rfl rfl ?_
 refine run1 ?_
 refine Wo.rcv rfl rfl rfl (run1 ?_)
 refine Wo.val (v := .bool false) (s' := s) rfl (fun tm hf => ?_) rfl ?_
 ·show xBin Tryz.prog .neq 20 (.tmp 6) (.const .nilIface) (opd tm (.tmp 6)) (opd tm (.const .nilIface)) s = _
  rw [ev_opd (v := .nilIface) hf rfl, ev_opd (v := .nilIface) hf rfl]
  show ofPure Tryz.prog (do eqGuard .neq 20 (.tmp 6) (.const .nilIface) .nilIface .nilIface; binOp .neq 20 .nilIface .nilIface) s = _
  unfold ofPure
  rw [nil_ne]
  rfl
 ·refine run1 ?_
  exact Lv.nrm rfl rfl
theorem decode_yes {b o : Nat} {l : List Nat} {x : Nz.It} (w0 : Wf s) (h : At s (some ⟨b, o, none⟩) (l.map nB)) (hb : ∀ x ∈ l, x < 256) (hc : Rm c l.length 1) (hx : Nz.dec l = .ok x) :
  Cl B (.call 43 [.slice (some ⟨b, o, none⟩) l.length c]) s fun v s' => ∃ cs, v = .tuple ⟨[.agg ⟨cs⟩, nI 0, nI 0]⟩ ∧ Im s' 81 cs ∧ Kn s s' := by
 have hbytes : Dg.bytesO (readAt s b o l.length) = some l := by
  rcases h with ⟨h0, h1⟩ | ⟨b', o', e, hr⟩
  ·rcases h1 with h1 | ⟨_, _, _, h1⟩ <;> cases h1
  ·cases e
   rw [List.length_map] at hr
   rw [hr]
   exact bytesN_map hb
 have hno : Nz.badH [.slice (some ⟨b, o, none⟩) l.length c] s = .no := by
  show cond (Nat.ble l.length (capOf c) && Nat.ble l.length 1048577) (Nz.badDec (Dg.bytesO (readAt s b o l.length)) s) .no = _
  rw [hbytes]
  unfold Nz.badDec
  simp only [hx]
  cases (Nat.ble l.length (capOf c) && Nat.ble l.length 1048577) <;> rfl
 refine Cl.enterN Tryz.f43 fn43 (g := Nz.badH) rfl hno rfl rfl ?_
 unfold Nz.dec at hx
 refine run1 ?_
 have hl : ¬ 1048576 < l.length := fun h => by rw [if_pos h] at hx; cases hx
 rw [if_neg hl] at hx
 cases hr : Nz.rd l 80 0 l.length with
 | bad p e => rw [hr] at hx; cases hx
 | ok y e =>
  rw [hr] at hx
  have he : ¬ e < l.length := fun h => by simp only [if_pos h] at hx; cases hx
  obtain ⟨q1, q2, _⟩ := Nz.rd_ok hb 80 0 l.length y e (Nat.le_refl _) (Nat.zero_le _) hr
  generalize hs1 : mkRow s [Value.bool false, Value.slice none 0 0, Value.slice none 0 0] = s1
  generalize hs2 : mkRow s1 [Value.int .i64 0] = s2
  generalize hs3 : mkRow s2 [Value.int .i64 0] = s3
  have r1 : Rw s1 s.nx z3 s.nx := hs1 ▸ mkRow_rw
  have k1 : Kn s s1 := hs1 ▸ mkRow_kn
  have r2 : Rw s2 s1.nx [nI 0] s1.nx := hs2 ▸ mkRow_rw
  have k2 : Kn s1 s2 := hs2 ▸ mkRow_kn
  have r3 : Rw s3 s2.nx [nI 0] s2.nx := hs3 ▸ mkRow_rw
  have k3 : Kn s2 s3 := hs3 ▸ mkRow_kn
  have n1 : s1.nx = s.nx + 1 := hs1 ▸ rfl
  have n2 : s2.nx = s1.nx + 1 := hs2 ▸ rfl
  have n3 : s3.nx = s2.nx + 1 := hs3 ▸ rfl
  have w1 := k1.wf w0
  have w2 := k2.wf w1
  have w3 := k3.wf w2
  have k03 : Kn s s3 := k1.call (k2.call k3)
  refine run1 ?_
  refine Wo.val rfl (Xv.mkF rfl) rfl ?_
  refine Wo.dfrC rfl rfl rfl rfl ?_
  refine run1 ?_
  refine Wo.call rfl (Xc.call ok69 rfl) rfl ((ritem_ok hb (by omega) 80 (Nat.le_refl _) w3 (h.kn w0 k03) hc (Nat.zero_le _) (Nat.le_refl _) hr).mono ?_)
  rintro v s4 ⟨cs, rfl, hcs, k4⟩
  have w4 := k4.wf w3
  have hcs3 := (hcs s4 .refl).len
  have R1 := ((r1.kp w1 k2 id).kp w2 k3 id).kp w3 k4 id
  have R2 := (r2.kp w2 k3 id).kp w3 k4 id
  have R3 := r3.kp w3 k4 id
  refine run1 ?_
  refine Wo.st rfl rfl rfl rfl rfl rfl hcs3.1 hcs3.2 R1 (by decide) fun s5 R5 n5 k5 => ?_
  rw [lov_all (by rw [hcs3.1]; rfl)] at R5
  have w5 := k5.wf w4
  refine run1 ?_
  have l5 := R5.all (n := 3) hcs3.1 (by decide)
  refine run1 ?_
  refine Wo.st rfl rfl rfl rfl rfl rfl hcs3.1 hcs3.2 R5 (by rw [hcs3.1]; decide) fun s6 R6 n6 k6 => ?_
  rw [lov_all rfl] at R6
  have w6 := k6.wf w5
  refine run1 ?_
  refine Wo.st rfl rfl rfl rfl rfl rfl rfl (oo1 rfl) ((R2.kp w4 k5 (by omega)).kp w5 k6 (by omega)) (by decide) fun s7 R7 n7 k7 => ?_
  have R7 : Rw s7 s1.nx [nI 0] s1.nx := R7
  have w7 := k7.wf w6
  refine run1 ?_
  refine Wo.st rfl rfl rfl rfl rfl rfl rfl (oo1 rfl) (((R3.kp w4 k5 (by omega)).kp w5 k6 (by omega)).kp w6 k7 (by omega)) (by decide) fun s8 R8 n8 k8 => ?_
  have R8 : Rw s8 s2.nx [nI 0] s2.nx := R8
  have w8 := k8.wf w7
  refine run1 ?_
  have K : Kp (fun c => s.nx ≤ c ∧ c < s3.nx) s4 s8 := (((k5.mono fun c h => by omega).trans (k6.mono fun c h => by omega)).trans (k7.mono fun c h => by omega)).trans (k8.mono fun c h => by omega)
  have h1 := (R6.kp w6 k7 (by omega)).kp w7 k8 (by omega)
  have h2 := R7.kp w7 k8 (by omega)
  have c1 := cell_at (B := B) (t := 87) rfl rfl h1 hcs3.1 rfl
  refine Lv.retD (show 1 ≤ 100 by decide) ⟨ok67, dlate_ok.mono ?_⟩
  rintro v s' e'
  rw [e']; clear e' s'
  refine ⟨[.agg ⟨cs⟩, nI 0, nI 0], ?_, cs, rfl, hcs s8 (K.mono fun c h => .inl h.2), Kp.new (k03.call k4) (K.mono fun c h => h.1) (Nat.le_refl _)⟩
  have c2 := cell_one (B := B) (t := 3) rfl rfl h2
  have c3 := cell_one (B := B) (t := 34) rfl rfl R8
  show (match cell1 B.P (.pointer (some ⟨s.nx, 0, none⟩)) 87 s8, (match cell1 B.P (.pointer (some ⟨s1.nx, 0, none⟩)) 3 s8, (match cell1 B.P (.pointer (some ⟨s2.nx, 0, none⟩)) 34 s8, some [] with | some v, some vs => some (v :: vs) | _, _ => none) with | some v, some vs => some (v :: vs) | _, _ => none) with | some v, some vs => some (v :: vs) | _, _ => none) = _
  rw [c1, c2, c3]
end Go.Proofs.YtcnhinnpieehoaaGreatDoor
