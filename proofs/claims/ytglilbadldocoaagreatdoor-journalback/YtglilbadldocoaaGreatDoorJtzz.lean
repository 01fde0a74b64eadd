import Derived.Test.YtglilbadldocoaaGreatDoorRrzz
import Derived.Test.YtglilbadldocoaaGreatDoorJszz
import Derived.Test.YtglilbadldocoaaGreatDoorCpzz
import Derived.Test.YtglilbadldocoaaGreatDoorWf1zz
namespace Go.Sy
open Go Go.Ev
section
variable {X : Fx} {env : Env} {df : List Deferred} {s : St} {Q : Post} {all os : List Oper} {ty : TypeId} {pos : String} {af : Array Edge} {g : Option (Nat × Bool)}
theorem Wo.dfrC {f : FuncId} {x : Operand} {args : Array Operand} {ts : Array TypeId} {vs ys : List Value} (hg : wantsE all env g = some true) (hrd : X.rd = none) (hx : ev env x = some (.func (.func f) #[] ⟨ys⟩)) (ha : evs env args.toList = some vs)
  (k : Wo X all os env (⟨.fn (.func f) ⟨ys⟩, ⟨vs⟩⟩ :: df) s Q) : Wo X all (⟨none, .defer ⟨.value x, args, ts⟩, ty, pos, af, g⟩ :: os) env df s Q := by
 constructor; intro tm hf
 have hx : exec X.P (.defer ⟨.value x, args, ts⟩) tm s = .ok (.defer ⟨.fn (.func f) ⟨ys⟩, ⟨vs⟩⟩) s := by
  show (match opd tm x with | .func (.func g) x y => Re.ok (.defer ⟨.fn (.func g) y, ⟨appO x.toList (opds tm args.toList)⟩⟩) s | _ => .no) = _
  rw [ev_opd hf hx]
  simp only
  rw [evs_opds hf ha, appO_eq]
  rfl
 have ho : ∀ rec, oper X.P rec X.rd all ⟨none, .defer ⟨.value x, args, ts⟩, ty, pos, af, g⟩ (.mk X.nt tm df) s = .ok (.mk X.nt tm (⟨.fn (.func f) ⟨ys⟩, ⟨vs⟩⟩ :: df)) s := fun rec => by
  unfold oper
  simp only [wants_ok hf hg, hx, after, hrd]
  rfl
 obtain ⟨e, env', tm', df', s2, k1, k2, k3⟩ := (k).w tm hf
 exact ⟨e, env', tm', df', s2, k1.mono fun m a => by dsimp only at a; show asN (thenO (oper _ _ _ _ _ _ _) _) = _; rw [ho]; exact a, k2, k3⟩
theorem Wo.rcv {d : Option Nat} {ts : Array TypeId} (hg : wantsE all env g = some true) (hrd : X.rd = none) (hd : dOk X d = true) (k : Wo X all os (up d .nilIface env) df s Q) : Wo X all (⟨d, .call ⟨.builtin .recover, #[], ts⟩, ty, pos, af, g⟩ :: os) env df s Q := by
 constructor; intro tm hf
 have hx : exec X.P (.call ⟨.builtin .recover, #[], ts⟩) tm s = .ok .recover s := rfl
 obtain ⟨tm1, hp, hf1⟩ := put_ok (X := X) (df := df) hd hf .nilIface
 have ho : ∀ rec, oper X.P rec X.rd all ⟨d, .call ⟨.builtin .recover, #[], ts⟩, ty, pos, af, g⟩ (.mk X.nt tm df) s = .ok (.mk X.nt tm1 df) s := fun rec => by
  unfold oper
  simp only [wants_ok hf hg, hx, after, hrd, hp]
  rfl
 obtain ⟨e, env', tm', df', s2, k1, k2, k3⟩ := (k).w tm1 hf1
 exact ⟨e, env', tm', df', s2, k1.mono fun m a => by dsimp only at a; show asN (thenO (oper _ _ _ _ _ _ _) _) = _; rw [ho]; exact a, k2, k3⟩
theorem Xv.mkF {f : FuncId} {y : Array Operand} {ys : List Value} (hy : evs env y.toList = some ys) : Xv X (.makeFunc (.func f) #[] y) env s (.func (.func f) #[] ⟨ys⟩) s := fun tm hf => by
 show Re.ok (.val (.func (.func f) ⟨opds tm []⟩ ⟨opds tm y.toList⟩)) s = _
 rw [evs_opds hf hy]
 rfl
end
end Go.Sy
namespace Go.Proofs.YtglilbadldocoaaGreatDoor
open Go Go.Ev Go.Sy
set_option maxRecDepth 100000
variable {s s0 : St} {p γ δ n c m N d : Nat} {q : Option Addr} {A D F : List Nat} {L cs : List Value}
theorem cell_one {B : Bx} {t n t0 : Nat} {k : Sh} {z : Option (List Value)} {b γ : Nat} {v : Value} (ht : tk B.T t = some ⟨t0, n, k, z⟩) (hk : k.one = true) (h : Rw s b [v] γ) : cell1 B.P (.pointer (some ⟨b, 0, none⟩)) t s = some v := by
 show loadG B.P s t b 0 (isAggT B.P t) = _
 rw [B.ag ht, hk]
 exact Rw.rd1 h rfl
theorem rdL_end {f : Nat → Nat → Nz.Rd} {e : Nat} {x : Nz.It} {z : Nat} : ∀ {n a : Nat} {acc : List Nz.It}, Nz.rdL f n a e acc = .ok x z → z = e
 | 0, _, _, h => by cases h; rfl
 | n + 1, a, acc, h => by
  rw [Nz.rdL] at h
  split at h
  ·split at h
   ·cases h
   ·exact rdL_end h
  ·cases h; rfl
set_option maxHeartbeats 1600000 in
theorem ritem_step {b o : Nat} {l : List Nat} (hsub : d ≠ 0 → Rdr b o l (d - 1)) (hd : d ≤ 80) (hb : ∀ x ∈ l, x < 256) (hl : l.length ≤ 1048576) : Rdr b o l d := by
 intro s p e c x z w0 h hc hp he hr
 refine Cl.enter Tryz.f100 fn100 rfl rfl rfl ?_
 refine run1 ?_
 refine mk_gen (cs := z3) (M := fun s' => W _ _ _ _ s' _) fun s1 r1 n1 k1 => ?_
 have w1 : Wf s1 := k1.wf w0
 have hB : Bs s1 (some ⟨b, o, none⟩) l := h.kn w0 k1
 have hx := mem_getD hb p
 rw [Nz.rd_eq] at hr
 have hpe : ¬ p = e := fun h => by rw [if_pos h] at hr; cases hr
 rw [if_neg hpe] at hr
 have hlt : p < e := by omega
 obtain ⟨y, hy⟩ : ∃ y, y = l.getD p 0 := ⟨_, rfl⟩
 have hgd : Nz.gd l p = y := hy.symm
 rw [hgd] at hr
 rw [← hy] at hx
 refine run1 ?_
 rw [← hy]
 by_cases h1 : y < 128
 ·rw [if_pos h1] at hr
  cases hr
  refine run1 ?_
  refine mkO (cs := [nB y]) fun s2 r2 n2 k2 => ?_
  have w2 : Wf s2 := k2.wf w1
  refine run1 ?_
  refine Wo.st rfl rfl rfl rfl rfl rfl rfl (by intro v hv; simp at hv; rcases hv with rfl | rfl | rfl <;> rfl) (r1.kp w1 k2 id) (by decide) fun s3 r3 n3 k3 => ?_
  have r3' : Rw s3 s.nx [.bool false, .slice (some ⟨s1.nx, 0, none⟩) 1 (sure 1), .slice none 0 0] s.nx := r3
  have w3 : Wf s3 := k3.wf w2
  refine run1 ?_
  have hcl := cell_at (B := B) (t := 94) rfl rfl r3' rfl rfl
  have e1 := k1.le
  have fin : IxK s3 (fun c => c < s.nx) (d + 1) (.mk false [y] []) [.bool false, .slice (some ⟨s1.nx, 0, none⟩) [y].length (sure 1), .slice none 0 0] := ix_str (A := [y]) (γ := s1.nx) ((r2.kp w2 k3 (by omega)).sl (o := 0) (n := 1) (Nat.le_refl _)) (by show ¬ s1.nx < s.nx; omega) (by omega) (by simp) (fun x hx => by rw [List.mem_singleton.1 hx]; exact ‹y < 256›)
  refine Lv.ret (vs := [.agg ⟨[.bool false, .slice (some ⟨s1.nx, 0, none⟩) 1 (sure 1), .slice none 0 0]⟩, nI (p + 1)]) ?_ ⟨_, rfl, fin, (k1.call k2).app k3 (Nat.le_refl _)⟩
  show (match cell1 B.P (.pointer (some ⟨s.nx, 0, none⟩)) 94 s3, some [nI (p + 1)] with | some v, some vs => some (v :: vs) | _, _ => none) = _
  rw [hcl]
 ·rw [if_neg h1] at hr
  by_cases h2 : y < 192
  ·rw [if_pos h2] at hr
   have h2' : ¬ 192 ≤ y := by omega
   cases hh : Nz.rdHead l p e (y - 128) with
   | bad c => rw [hh] at hr; cases hr
   | ok a z' =>
    rw [hh] at hr
    have h3 : ¬ (z' = a + 1 ∧ Nz.gd l a < 128) := fun h => by simp only [if_pos h] at hr; cases hr
    simp only [if_neg h3] at hr
    cases hr
    obtain ⟨q1, q2, q3, q4, _⟩ := Nz.rdHead_ok (base := 128) hb he hlt (show Nz.gd l p = 128 + (y - 128) by rw [hgd]; omega) (by omega) hh
    refine run1 ?_
    refine Wo.call rfl (Xc.call ok124 rfl) rfl ((rhead_ok (base := 128) hB hb he hc (by omega) hlt (by rw [← hy]; omega) (by rw [← hy]; omega) (by rw [← hy]; exact hh)).mono ?_)
    rintro v s' ⟨rfl, e'⟩; rw [e']; clear e' s'
    refine run1 ?_
    refine Wo.slLH rfl rfl rfl rfl rfl rfl rfl (Nat.le_trans (by omega) hc.2.1) q2 hc.2.2 hB (by rw [List.length_map]; omega) fun q' c' hq => ?_
    rw [Nat.mul_one, Nat.mul_one, ← List.map_drop, ← List.map_take] at hq
    obtain ⟨D, hD⟩ : ∃ D, D = (l.drop a).take (z - a) := ⟨_, rfl⟩
    have hDl : D.length = z - a := by rw [hD, List.length_take, List.length_drop]; omega
    have hDb : ∀ x ∈ D, x < 256 := fun x hx => hb x (List.mem_of_mem_drop (List.mem_of_mem_take (hD ▸ hx)))
    rw [← hD] at hq
    rw [← hDl]
    refine run1 ?_
    refine Wo.call rfl (Xc.call ok87 rfl) rfl ((alone_ok hq (by omega)).mono ?_)
    rintro v s' ⟨rfl, e'⟩; rw [e']; clear e' s'
    have h4 : ¬ (D.length = 1 ∧ D.getD 0 0 < 128) := fun ⟨k1, k2⟩ => h3 ⟨by omega, by
     rw [hD, List.getD_eq_getElem?_getD, List.getElem?_take, if_pos (by omega), List.getElem?_drop] at k2
     unfold Nz.gd
     rw [List.getD_eq_getElem?_getD]
     exact k2⟩
    refine run1 ?_
    refine Wo.slLH rfl rfl rfl rfl rfl rfl rfl (Nat.le_trans (by omega) hc.2.1) q2 hc.2.2 hB (by rw [List.length_map]; omega) fun q'' c'' hq' => ?_
    rw [Nat.mul_one, Nat.mul_one, ← List.map_drop, ← List.map_take, ← hD] at hq'
    rw [← hDl]
    refine run1 ?_
    refine Wo.call rfl (Xc.call ok25 rfl) rfl ((clone_ok w1 hq' (by omega)).mono ?_)
    rintro v s2 ⟨qn, cn, γn, rfl, gn, k2, hγ⟩
    have w2 : Wf s2 := k2.wf w1
    refine run1 ?_
    refine Wo.st rfl rfl rfl rfl rfl rfl rfl (by intro v hv; simp at hv; rcases hv with rfl | rfl | rfl <;> rfl) (r1.kp w1 k2 id) (by decide) fun s3 r3 n3 k3 => ?_
    have r3' : Rw s3 s.nx [.bool false, .slice qn D.length cn, .slice none 0 0] s.nx := r3
    have w3 : Wf s3 := k3.wf w2
    refine run1 ?_
    have hcl := cell_at (B := B) (t := 94) rfl rfl r3' rfl rfl
    have e1 := k1.le
    have e2 := k2.le
    obtain ⟨γ', sl', hn1, hn2⟩ : ∃ γ', Sl s3 qn (D.map nB) γ' ∧ s.nx ≤ γ' ∧ γ' < s3.nx := by
     cases hqn : qn with
     | none =>
      rcases gn.at' with ⟨_, h0, _⟩ | ⟨_, _, h0, _⟩
      ·exact ⟨s.nx, .inl ⟨by rw [List.map_eq_nil_iff]; exact List.eq_nil_of_length_eq_zero h0, .inl rfl⟩, Nat.le_refl _, by omega⟩
      ·rw [hqn] at h0; cases h0
     | some a =>
      have hlt := gn.ltq w2 (by rw [hqn]; exact fun h => by cases h)
      rw [hqn] at gn
      exact ⟨γn, (gn.kp w2 k3 (by omega)).sl, by omega, by omega⟩
    have hDc : D = Nz.cut l a z := by rw [hD]; unfold Nz.cut; rw [List.drop_take]
    have fin : IxK s3 (fun c => c < s.nx) (d + 1) (.mk false (Nz.cut l a z) []) [.bool false, .slice qn D.length cn, .slice none 0 0] := hDc ▸ ix_str sl' (by show ¬ γ' < s.nx; omega) hn2 (by omega) hDb
    refine Lv.ret (vs := [.agg ⟨[.bool false, .slice qn D.length cn, .slice none 0 0]⟩, nI z]) ?_ ⟨_, rfl, fin, (k1.call k2).app k3 (Nat.le_refl _)⟩
    show (match cell1 B.P (.pointer (some ⟨s.nx, 0, none⟩)) 94 s3, some [nI z] with | some v, some vs => some (v :: vs) | _, _ => none) = _
    rw [hcl]
  ·rw [if_neg h2] at hr
   have h2' : 192 ≤ y := by omega
   have hd0 : d ≠ 0 := fun h => by rw [if_pos h] at hr; cases hr
   rw [if_neg hd0] at hr
   cases hh : Nz.rdHead l p e (y - 192) with
   | bad c => rw [hh] at hr; cases hr
   | ok a z' =>
    rw [hh] at hr
    simp only at hr
    obtain rfl := rdL_end hr
    obtain ⟨q1, q2, q3, q4, _⟩ := Nz.rdHead_ok (base := 192) hb he hlt (show Nz.gd l p = 192 + (y - 192) by rw [hgd]; omega) (by omega) hh
    have e80 : 80 - d = 79 - (d - 1) := by omega
    have hrl := rlist_ok (d := d - 1) (p := p) (hsub hd0) (by omega) w1 hB hb hc hl hlt he (by rw [← hy]; exact h2') (by rw [← hy]; exact hh) q2 q3 hr
    rw [← e80, show d - 1 + 2 = d + 1 by omega] at hrl
    refine run1 ?_
    refine Wo.call rfl (Xc.call ok123 rfl) rfl (hrl.mono ?_)
    rintro v s2 ⟨cs, rfl, hcs, k2⟩
    have w2 : Wf s2 := k2.wf w1
    have hcs3 := hcs.ix.im.len
    refine run1 ?_
    refine Wo.st rfl rfl rfl rfl rfl rfl hcs3.1 hcs3.2 (r1.kp w1 k2 id) (by decide) fun s3 r3 n3 k3 => ?_
    rw [lov_all (by rw [hcs3.1]; rfl)] at r3
    refine run1 ?_
    have hcl := cell_at (B := B) (t := 94) rfl rfl r3 hcs3.1 rfl
    have e1 := k1.le
    refine Lv.ret (vs := [.agg ⟨cs⟩, nI z]) ?_ ⟨cs, rfl, hcs.step w2 (k3.mono fun c h => .inl (by omega)) fun c hc => .inl (by show c < s1.nx; omega), (k1.call k2).app k3 (Nat.le_refl _)⟩
    show (match cell1 B.P (.pointer (some ⟨s.nx, 0, none⟩)) 94 s3, some [nI z] with | some v, some vs => some (v :: vs) | _, _ => none) = _
    rw [hcl]
theorem ritem_ok {b o : Nat} {l : List Nat} (hb : ∀ x ∈ l, x < 256) (hl : l.length ≤ 1048576) : ∀ d, d ≤ 80 → Rdr b o l d
 | 0, hd => ritem_step (fun h => absurd rfl h) hd hb hl
 | d + 1, hd => ritem_step (fun _ => ritem_ok hb hl d (by omega)) hd hb hl
theorem nil_ne : pureRun Tryz.prog (do eqGuard .neq 20 (.tmp 6) (.const .nilIface) .nilIface .nilIface; binOp .neq 20 .nilIface .nilIface) = some (.bool false) := by kernel_rfl
theorem dlate_ok {v1 v2 v3 : Value} : Cl B (.late 98 [v1, v2, v3]) s fun _ s' => s' = s := by
 refine Cl.late Tryz.f98 fn98 rfl rfl ?_
 refine run1 ?_
 refine Wo.rcv rfl rfl rfl (run1 ?_)
 refine Wo.val (v := .bool false) (s' := s) rfl (fun tm hf => ?_) rfl ?_
 ·show xBin Tryz.prog .neq 20 (.tmp 6) (.const .nilIface) (opd tm (.tmp 6)) (opd tm (.const .nilIface)) s = _
  rw [ev_opd (v := .nilIface) hf rfl, ev_opd (v := .nilIface) hf rfl]
  show ofPure Tryz.prog (do eqGuard .neq 20 (.tmp 6) (.const .nilIface) .nilIface .nilIface; binOp .neq 20 .nilIface .nilIface) s = _
  unfold ofPure
  rw [nil_ne]
  rfl
 ·refine run1 ?_
  exact Lv.nrm rfl rfl
theorem decode_yes {b o : Nat} {l : List Nat} {x : Nz.It} (w0 : Wf s) (h : At s (some ⟨b, o, none⟩) (l.map nB)) (hb : ∀ x ∈ l, x < 256) (hc : Rm c l.length 1) (hx : Nz.dec l = .ok x) :
  Cl B (.call 63 [.slice (some ⟨b, o, none⟩) l.length c]) s fun v s' => ∃ cs, v = .tuple ⟨[.agg ⟨cs⟩, nI 0, nI 0]⟩ ∧ IxK s' (fun c => c < s.nx) 81 x cs ∧ Kn s s' := by
 refine Cl.enter Tryz.f63 fn63 rfl rfl rfl ?_
 unfold Nz.dec at hx
 refine run1 ?_
 have hl : ¬ 1048576 < l.length := fun h => by rw [if_pos h] at hx; cases hx
 rw [if_neg hl] at hx
 cases hr : Nz.rd l 80 0 l.length with
 | bad p e => rw [hr] at hx; cases hx
 | ok y e =>
  rw [hr] at hx
  have he : ¬ e < l.length := fun h => by simp only [if_pos h] at hx; cases hx
  obtain rfl : y = x := by simp only [if_neg he] at hx; cases hx; rfl
  obtain ⟨q1, q2, _⟩ := Nz.rd_ok hb 80 0 l.length y e (Nat.le_refl _) (Nat.zero_le _) hr
  generalize hs1 : mkRow s [Value.bool false, Value.slice none 0 0, Value.slice none 0 0] = s1
  generalize hs2 : mkRow s1 [Value.int .i64 0] = s2
  generalize hs3 : mkRow s2 [Value.int .i64 0] = s3
  have r1 : Rw s1 s.nx z3 s.nx := hs1 ▸ mkRow_rw
  have k1 : Kn s s1 := hs1 ▸ mkRow_kn
  have r2 : Rw s2 s1.nx [nI 0] s1.nx := hs2 ▸ mkRow_rw
  have k2 : Kn s1 s2 := hs2 ▸ mkRow_kn
  have r3 : Rw s3 s2.nx [nI 0] s2.nx := hs3 ▸ mkRow_rw
  have k3 : Kn s2 s3 := hs3 ▸ mkRow_kn
  have n1 : s1.nx = s.nx + 1 := hs1 ▸ rfl
  have n2 : s2.nx = s1.nx + 1 := hs2 ▸ rfl
  have n3 : s3.nx = s2.nx + 1 := hs3 ▸ rfl
  have w1 := k1.wf w0
  have w2 := k2.wf w1
  have w3 := k3.wf w2
  have k03 : Kn s s3 := k1.call (k2.call k3)
  refine run1 ?_
  refine Wo.val rfl (Xv.mkF rfl) rfl ?_
  refine Wo.dfrC rfl rfl rfl rfl ?_
  refine run1 ?_
  refine Wo.call rfl (Xc.call ok100 rfl) rfl ((ritem_ok hb (by omega) 80 (Nat.le_refl _) w3 (h.kn w0 k03) hc (Nat.zero_le _) (Nat.le_refl _) hr).mono ?_)
  rintro v s4 ⟨cs, rfl, hcs, k4⟩
  have w4 := k4.wf w3
  have hcs3 := hcs.ix.im.len
  have R1 := ((r1.kp w1 k2 id).kp w2 k3 id).kp w3 k4 id
  have R2 := (r2.kp w2 k3 id).kp w3 k4 id
  have R3 := r3.kp w3 k4 id
  refine run1 ?_
  refine Wo.st rfl rfl rfl rfl rfl rfl hcs3.1 hcs3.2 R1 (by decide) fun s5 R5 n5 k5 => ?_
  rw [lov_all (by rw [hcs3.1]; rfl)] at R5
  have w5 := k5.wf w4
  refine run1 ?_
  have l5 := R5.all (n := 3) hcs3.1 (by decide)
  refine run1 ?_
  refine Wo.st rfl rfl rfl rfl rfl rfl hcs3.1 hcs3.2 R5 (by rw [hcs3.1]; decide) fun s6 R6 n6 k6 => ?_
  rw [lov_all rfl] at R6
  have w6 := k6.wf w5
  refine run1 ?_
  refine Wo.st rfl rfl rfl rfl rfl rfl rfl (by intro v hv; rw [List.mem_singleton] at hv; rw [hv]; rfl) ((R2.kp w4 k5 (by omega)).kp w5 k6 (by omega)) (by decide) fun s7 R7 n7 k7 => ?_
  have R7 : Rw s7 s1.nx [nI 0] s1.nx := R7
  have w7 := k7.wf w6
  refine run1 ?_
  refine Wo.st rfl rfl rfl rfl rfl rfl rfl (by intro v hv; rw [List.mem_singleton] at hv; rw [hv]; rfl) (((R3.kp w4 k5 (by omega)).kp w5 k6 (by omega)).kp w6 k7 (by omega)) (by decide) fun s8 R8 n8 k8 => ?_
  have R8 : Rw s8 s2.nx [nI 0] s2.nx := R8
  have w8 := k8.wf w7
  refine run1 ?_
  have K : Kp (fun c => s.nx ≤ c ∧ c < s3.nx) s4 s8 := (((k5.mono fun c h => by omega).trans (k6.mono fun c h => by omega)).trans (k7.mono fun c h => by omega)).trans (k8.mono fun c h => by omega)
  have h1 := (R6.kp w6 k7 (by omega)).kp w7 k8 (by omega)
  have h2 := R7.kp w7 k8 (by omega)
  have c1 := cell_at (B := B) (t := 94) rfl rfl h1 hcs3.1 rfl
  refine Lv.retD (show 1 ≤ 100 by decide) ⟨ok98, dlate_ok.mono ?_⟩
  rintro v s' e'
  rw [e']; clear e' s'
  refine ⟨[.agg ⟨cs⟩, nI 0, nI 0], ?_, cs, rfl, hcs.step w4 (K.mono fun c h => .inl h.2) (fun c hc => .inl (by show c < s3.nx; have := k03.le; omega)), Kp.new (k03.call k4) (K.mono fun c h => h.1) (Nat.le_refl _)⟩
  have c2 := cell_one (B := B) (t := 3) rfl rfl h2
  have c3 := cell_one (B := B) (t := 37) rfl rfl R8
  show (match cell1 B.P (.pointer (some ⟨s.nx, 0, none⟩)) 94 s8, (match cell1 B.P (.pointer (some ⟨s1.nx, 0, none⟩)) 3 s8, (match cell1 B.P (.pointer (some ⟨s2.nx, 0, none⟩)) 37 s8, some [] with | some v, some vs => some (v :: vs) | _, _ => none) with | some v, some vs => some (v :: vs) | _, _ => none) with | some v, some vs => some (v :: vs) | _, _ => none) = _
  rw [c1, c2, c3]
open Go Go.Ev Go.Sy
set_option maxRecDepth 100000
variable {s : St} {q r : Option Addr} {c d : Nat} {M N : List Nat}
theorem roomy_own (w : Wf s) (ha : Bs s q M) (hA : M.length < 2 ^ 47 - 1024) :
  Cl B (.call 20 [.slice q M.length c]) s fun v s' => ∃ γ, Own s' v M [77, 78, 79] γ ∧ Kn s s' ∧ s.nx ≤ γ :=
 (roomy_ok w ha hA).mono fun v s' ⟨b, c', γ, h1, h2, h3, h4, h5⟩ => ⟨γ, ⟨⟨b, c', h1, h2, (cap_ok h3 (by omega)).1, (cap_ok h3 (by omega)).2⟩, by omega⟩, h4, h5⟩
def cv (x : Ch) : List Nat × List Nat × Bool := (x.k, x.v, x.g)
def Ows (N0 : Nat) (s : St) (ys : List Ch) : Prop := ∀ y ∈ ys, (∃ g, Own s y.kv y.k [77, 78, 79] g ∧ N0 ≤ g) ∧ ∃ g, Own s y.vv y.v [77, 78, 79] g ∧ N0 ≤ g
theorem Ows.kp {C : Nat → Prop} {N0 : Nat} {s' : St} {ys : List Ch} (h : Ows N0 s ys) (w : Wf s) (k : Kp C s s') (hc : ∀ c, N0 ≤ c → c < s.nx → ¬ C c) : Ows N0 s' ys := fun y hy =>
 let ⟨⟨g, h1, h2⟩, ⟨j, h3, h4⟩⟩ := h y hy
 ⟨⟨g, h1.kp w k (hc g h2 (h1.ltn w)), h2⟩, ⟨j, h3.kp w k (hc j h4 (h3.ltn w)), h4⟩⟩
def zq (m : Nat) : List Value := (List.replicate m [Value.slice none 0 0, Value.slice none 0 0, Value.bool false]).flatten
theorem zq_length (m : Nat) : (zq m).length = m * 3 := by unfold zq; rw [List.length_flatten]; simp
theorem zq_succ (m : Nat) : zq (m + 1) = [Value.slice none 0 0, Value.slice none 0 0, Value.bool false] ++ zq m := by unfold zq; rw [List.replicate_succ]; rfl
theorem lov_zq {a c : List Value} {u v w : Value} {o : Nat} (h : o = a.length) : lov (a ++ ([Value.slice none 0 0, Value.slice none 0 0, Value.bool false] ++ c)) o [u, v, w] = a ++ ([u, v, w] ++ c) := lov_app h rfl
theorem chs_len : ∀ {ys : List Ch}, (ys.map chc).flatten.length = ys.length * 3
 | [] => rfl
 | y :: ys => by rw [List.map_cons, List.flatten_cons, List.length_append, chs_len]; show 3 + _ = _; rw [List.length_cons]; omega
def mrkB : List Nat := [109, 97, 114, 107]
structure Cpy (N0 : Nat) (s : St) (xs ys : List Ch) (bl bm : Nat) : Prop where
 len : ys.length = xs.length
 same : ys.map cv = xs.map cv
 own : Ows N0 s ys
 row : Rw s bl ((ys.map chc).flatten ++ [.slice (some ⟨bm, 0, none⟩) 4 (sure 4), .slice none 0 0, .bool false]) bl
 mark : Rw s bm (mrkB.map nB) bm
 lt : N0 ≤ bl ∧ N0 ≤ bm
set_option maxHeartbeats 1600000 in
theorem copyR_ok {k c q : Int} {P R : List Nat} {Q : Option Addr} {xs : List Ch} {C : Nat} (w0 : Wf s) (hP : P.length = 32) (hR : R.length = 32) (h : RcOk s Q xs) (hl : ∀ x ∈ xs, x.k.length < 2 ^ 47 - 1024 ∧ x.v.length < 2 ^ 47 - 1024) (hn : xs.length * 56 ≤ 2 ^ 47) :
  Cl B (.call 8 [.agg ⟨rcV k c q P R (.slice Q xs.length C)⟩]) s fun v s' => ∃ bl bm ys, v = .agg ⟨rcV k c q P R (.slice (some ⟨bl, 0, none⟩) xs.length (sure (xs.length + 1)))⟩ ∧ Cpy s.nx s' xs ys bl bm ∧ Kn s s' := by
 refine Cl.enter Tryz.f8 fn8 rfl rfl rfl ?_
 refine run1 ?_
 obtain ⟨z, hz⟩ : ∃ z : List Value, z = rcV 0 0 0 (List.replicate 32 0) (List.replicate 32 0) (.slice none 0 0) := ⟨_, rfl⟩
 have hzl : z.length = 68 := by rw [hz]; rfl
 obtain ⟨s2, b2, f1, f2, hb, r2, z2, n2, k2⟩ := two_mk (cs := rcV k c q P R (.slice Q xs.length C)) (ds := z) w0
 rw [show mkRow (mkRow s _) _ = s2 from (by rw [← f1, hz]; rfl), show (mkRow s _).nx = b2 from f2]
 have w2 : Wf s2 := k2.wf w0
 obtain ⟨b1, hb1⟩ : ∃ b, b = s.nx := ⟨_, rfl⟩
 rw [← hb1] at r2 ⊢
 have g1 : good (some ⟨b1, 0, none⟩) := good_b
 have g2 : good (some ⟨b2, 0, none⟩) := good_b
 have l5 : ldq s2 (qadd (some ⟨b1, 0, none⟩) 67) = some (.slice Q xs.length C) := r2.f1 (rc_chg hP hR)
 refine run1 ?_
 refine Wo.val rfl (Xv.make rfl rfl rfl rfl rfl (Nat.zero_le _) rfl (by omega) (by omega)) rfl ?_
 refine mk_gen (M := fun s' => Wo _ _ _ _ _ s' _) fun s3 r3 n3 k3 => ?_
 have r3' : Rw s3 s2.nx (zq (xs.length + 1)) s2.nx := r3
 have w3 : Wf s3 := k3.wf w2
 obtain ⟨bl, hbl⟩ : ∃ b, b = s2.nx := ⟨_, rfl⟩
 rw [← hbl] at r3' ⊢
 have k03 : Kn s s3 := k2.call k3
 refine run1 ?_
 refine W.loop (α := Nat × St) (fun a => [(1, .pointer (some ⟨b1, 0, none⟩)), (2, .pointer (some ⟨b2, 0, none⟩)), (3, .slice (some ⟨bl, 0, none⟩) a.1 (sure (xs.length + 1))), (4, nI a.1)]) (fun _ => []) (fun a => a.2)
  (fun a => a.1 ≤ xs.length ∧ Kn s a.2 ∧ s3.nx ≤ a.2.nx ∧ Rw a.2 b1 (rcV k c q P R (.slice Q xs.length C)) b1 ∧ Rw a.2 b2 z b2 ∧ ∃ ys, ys.length = a.1 ∧ ys.map cv = (xs.take a.1).map cv ∧ Ows s3.nx a.2 ys ∧ Rw a.2 bl ((ys.map chc).flatten ++ zq (xs.length + 1 - a.1)) bl) (fun a => xs.length - a.1) (0, s3)
  ⟨Nat.zero_le _, k03, Nat.le_refl _, r2.kp w2 k3 id, z2.kp w2 k3 id, [], rfl, rfl, fun y hy => (List.not_mem_nil hy).elim, r3'⟩ (.cons rfl (.cons rfl (.cons rfl (.cons rfl .nil)))) rfl rfl (by show xs.length - 0 < _; omega) ?_
 rintro ⟨i, t⟩ ⟨i1, kt, en, t1, t2, ys, y1, y2, y3, y4⟩
 simp only at i1 kt en t1 t2 y1 y2 y3 y4
 dsimp only
 have wt : Wf t := kt.wf w0
 have lt5 : ldq t (qadd (some ⟨b1, 0, none⟩) 67) = some (.slice Q xs.length C) := t1.f1 (rc_chg hP hR)
 by_cases hi : i < xs.length
 ·have hok := h.ok _ (List.getElem_mem hi)
  have hch := hl _ (List.getElem_mem hi)
  obtain ⟨gQ, lx⟩ := (h.kn w0 kt).kid hi
  obtain ⟨x, ex⟩ : ∃ x, x = xs[i] := ⟨_, rfl⟩
  rw [← ex] at hok hch lx
  have hone := hok.one
  obtain ⟨⟨qk, ck, ek, bk1, bk2⟩, ⟨qv, cv', ev1, bv1, bv2⟩, _, _⟩ := hok
  rw [chc, ek, ev1] at lx hone
  refine run1 ?_
  refine mkO (cs := [.slice none 0 0, .slice none 0 0, .bool false]) fun t3 p3 m3 j3 => ?_
  have wt3 : Wf t3 := j3.wf wt
  refine Wo.st rfl rfl rfl rfl rfl rfl rfl hone p3 (by decide) fun t4 p4 m4 j4 => ?_
  have p4' : Rw t4 t.nx [.slice qk x.k.length ck, .slice qv x.v.length cv', .bool x.g] t.nx := p4
  have kt4 : Kn t t4 := j3.app j4 (Nat.le_refl _)
  have wt4 : Wf t4 := kt4.wf wt
  obtain ⟨b5, hb5⟩ : ∃ b, b = t.nx := ⟨_, rfl⟩
  rw [← hb5] at p4' ⊢
  have g5 : good (some ⟨b5, 0, none⟩) := good_b
  have q0 : ldq t4 (qadd (some ⟨b5, 0, none⟩) 0) = some (.slice qk x.k.length ck) := p4'.f1 rfl
  refine run1 ?_
  refine W.dr [(1, .none, 0), (2, .reads, 2), (3, .acts, 6), (4, .none, 0), (5, .reads, 16), (6, .acts, 62), (0, .none, 0), (7, .none, 0), (8, .reads, 128), (9, .none, 510), (10, .makes, 1022), (11, .acts, 2047), (12, .none, 4095)] (by kernel_rfl) rfl (run1 ?_)
  refine Wd.call rfl (Xc.call ok20 rfl) rfl ((roomy_own wt4 (bk1.kn w0 (kt.call kt4)) hch.1).mono ?_)
  rintro v t5 ⟨γk, ok1, k5, lk1⟩
  have wt5 : Wf t5 := k5.wf wt4
  have q1 : ldq t5 (qadd (some ⟨b5, 0, none⟩) 1) = some (.slice qv x.v.length cv') := (p4'.kp wt4 k5 id).f1 rfl
  have q1' : ldq t4 (qadd (some ⟨b5, 0, none⟩) 1) = some (.slice qv x.v.length cv') := p4'.f1 rfl
  refine ⟨k5.le, run1 ?_⟩
  refine Wd.call rfl (Xc.call ok20 rfl) rfl ((roomy_own wt5 (bv1.kn w0 ((kt.call kt4).call k5)) hch.2).mono ?_)
  rintro u t6 ⟨γv, ok2, k6, lv1⟩
  have wt6 : Wf t6 := k6.wf wt5
  have q2 : ldq t6 (qadd (some ⟨b5, 0, none⟩) 2) = some (.bool x.g) := ((p4'.kp wt4 k5 id).kp wt5 k6 id).f1 rfl
  have q2' : ldq t5 (qadd (some ⟨b5, 0, none⟩) 2) = some (.bool x.g) := (p4'.kp wt4 k5 id).f1 rfl
  have q2'' : ldq t4 (qadd (some ⟨b5, 0, none⟩) 2) = some (.bool x.g) := p4'.f1 rfl
  obtain ⟨bv, cv1, rfl, _⟩ := ok1.ex
  obtain ⟨bu, cu1, rfl, _⟩ := ok2.ex
  refine ⟨k6.le, run1 ?_⟩
  refine Wd.val rfl (Xv.build (cs := [.slice (some ⟨bv, 0, none⟩) x.k.length cv1, .slice (some ⟨bu, 0, none⟩) x.v.length cu1, .bool x.g]) rfl (by generalize x.g = g; cases g <;> rfl)) rfl (Nat.le_refl _) ?_
  refine Wd.make rfl (Xv.bsl (cs := [.slice (some ⟨bv, 0, none⟩) x.k.length cv1, .slice (some ⟨bu, 0, none⟩) x.v.length cu1, .bool x.g]) rfl rfl rfl (by generalize x.g = g; cases g <;> rfl)) rfl (Nat.le_succ _) ?_
  refine mk_gen (cs := [.slice (some ⟨bv, 0, none⟩) x.k.length cv1, .slice (some ⟨bu, 0, none⟩) x.v.length cu1, .bool x.g]) (M := fun s' => Wd _ _ _ _ _ _ s' _) fun t7 p7 m7 k7 => ?_
  have wt7 : Wf t7 := k7.wf wt6
  have k47 : Kn t4 t7 := k5.call (k6.call k7)
  have kt7 : Kn t t7 := kt4.call k47
  have y7 := y4.kp wt kt7 id
  obtain ⟨yv, hyv⟩ : ∃ y : Ch, y = ⟨.slice (some ⟨bv, 0, none⟩) x.k.length cv1, .slice (some ⟨bu, 0, none⟩) x.v.length cu1, x.k, x.v, x.g⟩ := ⟨_, rfl⟩
  have e6 : xs.length + 1 - i = (xs.length - i) + 1 := by omega
  rw [e6, zq_succ] at y7
  refine Wd.appc (n := i) rfl rfl rfl rfl rfl rfl rfl rfl y7 rfl (cells_at (k := 1) (size := 3) p7.ats rfl (by decide)) rfl (by intro v hv; simp at hv; rcases hv with rfl | rfl | rfl <;> rfl) rfl (by omega) (by omega) (by omega) (by rw [List.length_append, List.length_append, chs_len, zq_length, y1]; show (i + 1) * 3 ≤ i * 3 + (3 + (xs.length - i) * 3); omega) ?_
  intro t8 p8 m8 k8
  rw [lov_zq (by rw [chs_len, y1]), ← List.append_assoc] at p8
  have wt8 : Wf t8 := k8.wf wt7
  have e8 := k8.le
  have e7 := kt7.le
  have e5 := k5.le
  have e6' := k6.le
  have e47 := kt4.le
  have hb12 := (r2.lt w2).1
  have hb22 := (z2.lt w2).1
  refine run1 ?_
  refine rnd.n (i + 1, t8) ⟨hi, (kt.call kt7).app k8 (by omega), by show s3.nx ≤ t8.nx; omega, (t1.kp wt kt7 id).kp wt7 k8 (by omega), (t2.kp wt kt7 id).kp wt7 k8 (by omega), ys ++ [yv], by rw [List.length_append, y1]; rfl, ?_, ?_, ?_⟩ (by show xs.length - (i + 1) < xs.length - i; omega) (.cons rfl (.cons rfl (.cons rfl (.cons rfl .nil)))) rfl rfl
  ·show (ys ++ [yv]).map cv = (xs.take (i + 1)).map cv
   rw [List.take_succ_eq_append_getElem hi, List.map_append, List.map_append, y2, ← ex, hyv]; rfl
  ·intro y hy
   rcases List.mem_append.1 hy with hy | hy
   ·exact (Ows.kp (y3.kp wt kt7 (fun _ _ _ h => h)) wt7 k8 (fun c h1 h2 h => by omega)) y hy
   ·rw [List.mem_singleton] at hy
    rw [hy, hyv]
    exact ⟨⟨γk, (ok1.kp wt5 (k6.call k7) id).kp wt7 k8 (by omega), by omega⟩, ⟨γv, (ok2.kp wt6 k7 id).kp wt7 k8 (by omega), by omega⟩⟩
  ·show Rw t8 bl (((ys ++ [yv]).map chc).flatten ++ zq (xs.length + 1 - (i + 1))) bl
   rw [List.map_append, List.flatten_append, show xs.length + 1 - (i + 1) = xs.length - i by omega, hyv]
   exact p8
 ·have hie : i = xs.length := by omega
  subst hie
  rw [List.take_of_length_le (Nat.le_refl _)] at y2
  rw [show xs.length + 1 - xs.length = 0 + 1 by omega, zq_succ] at y4
  refine run1 ?_
  refine mkO (cs := mrkB.map nB) fun t3 p3 m3 j3 => ?_
  have wt3 : Wf t3 := j3.wf wt
  obtain ⟨bm, hbm⟩ : ∃ b, b = t.nx := ⟨_, rfl⟩
  rw [← hbm] at p3 ⊢
  refine Wo.asB rfl rfl rfl rfl rfl wt3 p3 fun t3' p3' m3' j3' => run1 ?_
  have wt3' : Wf t3' := j3'.wf wt3
  have j33 : Kn t t3' := j3.app j3' (by omega)
  refine mkO (cs := [.slice (some ⟨bm, 0, none⟩) 4 (sure 4), .slice none 0 0, .bool false]) fun t4 p4 m4 j4 => ?_
  have wt4 : Wf t4 := j4.wf wt3'
  have kt4 : Kn t t4 := j33.call j4
  have y5 := y4.kp wt kt4 id
  refine Wo.appc (n := xs.length) rfl rfl rfl rfl rfl rfl rfl rfl y5 rfl (cells_at (k := 1) (size := 3) p4.ats rfl (by decide)) rfl (by intro v hv; simp at hv; rcases hv with rfl | rfl | rfl <;> rfl) rfl (by omega) (by omega) (by omega) (by rw [List.length_append, List.length_append, chs_len, zq_length, y1]; show (xs.length + 1) * 3 ≤ xs.length * 3 + (3 + 0 * 3); omega) ?_
  intro t5 p5 m5 k5
  rw [lov_zq (by rw [chs_len, y1])] at p5
  have p5' : Rw t5 bl ((ys.map chc).flatten ++ [.slice (some ⟨bm, 0, none⟩) 4 (sure 4), .slice none 0 0, .bool false]) bl := by
   rw [show ([.slice (some ⟨bm, 0, none⟩) 4 (sure 4), .slice none 0 0, .bool false] : List Value) ++ zq 0 = [.slice (some ⟨bm, 0, none⟩) 4 (sure 4), .slice none 0 0, .bool false] from List.append_nil _] at p5
   exact p5
  have wt5 : Wf t5 := k5.wf wt4
  have hb12 := (r2.lt w2).1
  have hb22 := (z2.lt w2).1
  refine run1 ?_
  refine Wo.val rfl (Xv.slH rfl rfl rfl rfl (Cap.sure (Nat.le_refl _)) (Nat.le_succ _)) rfl ?_
  refine run1 ?_
  have q1 := (t1.kp wt kt4 id).kp wt4 k5 (by omega)
  have q2 := (t2.kp wt kt4 id).kp wt4 k5 (by omega)
  refine Wo.st rfl rfl rfl rfl rfl rfl rfl (by intro v hv; rw [List.mem_singleton] at hv; rw [hv]; rfl) q1 (by rw [rc_len hP hR]; decide) fun t6 p6 m6 k6 => ?_
  have p6' : Rw t6 b1 (rcV k c q P R (.slice (some ⟨bl, 0, none⟩) xs.length (sure (xs.length + 1)))) b1 := by
   have e : ∀ x y : Value, lov (rcV k c q P R x) (0 + 67) [y] = rcV k c q P R y := fun x y => by
    rw [show rcV k c q P R x = (I k :: I c :: I q :: (P.map nB ++ R.map nB)) ++ ([x] ++ []) by simp [rcV], lov_app (b := [x]) (vs := [y]) (by simp [hP, hR]) rfl]; simp [rcV]
   rw [e] at p6
   exact p6
  have wt6 : Wf t6 := k6.wf wt5
  have l6 := p6'.all (n := 68) (rc_len hP hR) (by decide)
  refine run1 ?_
  have hoz : ∀ v ∈ rcV k c q P R (.slice (some ⟨bl, 0, none⟩) xs.length (sure (xs.length + 1))), one v = true := fun v hv => by
   simp only [rcV, List.mem_cons, List.mem_append, List.not_mem_nil, or_false] at hv
   rcases hv with rfl | rfl | rfl | hv | hv | rfl
   ·rfl
   ·rfl
   ·rfl
   ·exact one_nB v hv
   ·exact one_nB v hv
   ·rfl
  refine Wo.st rfl rfl rfl rfl rfl rfl (rc_len hP hR) hoz (q2.kp wt5 k6 (by omega)) (by rw [hzl]; decide) fun t7 p7 m7 k7 => ?_
  rw [lov_all (by rw [rc_len hP hR, hzl])] at p7
  refine run1 ?_
  have hcl := cell_at (B := B) (t := 35) (n := 68) rfl rfl p7 (rc_len hP hR) rfl
  have kf : Kn s t7 := (((kt.call kt4).app k5 (by omega)).app k6 (by omega)).app k7 (by omega)
  have hbn := (p5'.lt wt5).1
  have e5 := k5.le
  have e4 := kt4.le
  have wA : Ows s3.nx t4 ys := y3.kp wt kt4 (fun _ _ _ h => h)
  have wB : Ows s3.nx t5 ys := wA.kp wt4 k5 (fun c h1 _ h => by omega)
  have wC : Ows s3.nx t6 ys := wB.kp wt5 k6 (fun c h1 _ h => by omega)
  have wD : Ows s3.nx t7 ys := wC.kp wt6 k7 (fun c h1 _ h => by omega)
  have wE : Ows b1 t7 ys := fun y hy => by
   obtain ⟨⟨g, h1, h2⟩, ⟨j, h3, h4⟩⟩ := wD y hy
   exact ⟨⟨g, h1, by omega⟩, ⟨j, h3, by omega⟩⟩
  refine Lv.ret (vs := [.agg ⟨rcV k c q P R (.slice (some ⟨bl, 0, none⟩) xs.length (sure (xs.length + 1)))⟩]) ?_ ⟨bl, bm, ys, rfl, ⟨y1, y2, wE, (p5'.kp wt5 k6 (by omega)).kp wt6 k7 (by omega), (((p3'.kp wt3' j4 id).kp wt4 k5 (by omega)).kp wt5 k6 (by omega)).kp wt6 k7 (by omega), ⟨by omega, by omega⟩⟩, kf⟩
  show (match cell1 B.P (.pointer (some ⟨b2, 0, none⟩)) 35 t7, some [] with | some v, some vs => some (v :: vs) | _, _ => none) = _
  rw [hcl]
end Go.Proofs.YtglilbadldocoaaGreatDoor
