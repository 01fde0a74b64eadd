import Derived.Test.YteldpcbhfbgomaaGreatDoorDfzz
namespace Go.Proofs.YteldpcbhfbgomaaGreatDoor
open Go Go.Ev Go.Sy
set_option maxRecDepth 100000
variable {s s0 : St} {p γ δ n c m N d : Nat} {q : Option Addr} {A D F : List Nat} {L cs : List Value}
theorem flat_drop {Fs : List (List Nat)} {i : Nat} {G : List Nat} (h : Fs[i]? = some G) : (Fs.drop i).flatten = G ++ (Fs.drop (i + 1)).flatten := by
 obtain ⟨h1, h2⟩ := List.getElem?_eq_some_iff.1 h
 rw [List.drop_eq_getElem_cons h1, List.flatten_cons, h2]
theorem flat_dlen {Fs : List (List Nat)} {i : Nat} : (Fs.drop i).flatten.length ≤ Fs.flatten.length := by
 have := congrArg (fun l : List (List Nat) => l.flatten.length) (List.take_append_drop i Fs)
 simp only [List.flatten_append, List.length_append] at this
 omega
theorem lov_at {a b : List Nat} {o k : Nat} (h : k + a.length = o) (hl : o + b.length ≤ L.length) : lov (lov L o (b.map nB)) k (a.map nB) = lov L k ((a ++ b).map nB) := by
 have := lov_lov (l := L) (a := a.map nB) (b := b.map nB) (o := k) (by rw [List.length_map, List.length_map]; omega)
 rw [List.length_map, h, ← List.map_append] at this
 exact this
set_option maxHeartbeats 1600000 in
theorem witem_ok (hw0 : Wf s0) : ∀ {d : Nat} {s : St} {m : Nat} {L cs : List Value} {F : List Nat}, Fm s0 d cs F → Kp (fun c => s0.nx ≤ c) s0 s → Rw s p L γ → s0.nx ≤ γ → L.length = N → N < 2 ^ 40 → m ≤ N → F.length ≤ m →
  Cl B (.call 48 [.slice (some ⟨p, 0, none⟩) m (sure N), .agg ⟨cs⟩]) s fun v s' => v = .slice (some ⟨p, 0, none⟩) (m - F.length) (sure N) ∧ Rw s' p (lov L (m - F.length) (F.map nB)) γ ∧ Kp (fun c => c = γ) s s'
 | 0, _, _, _, _, _, h, _, _, _, _, _, _, _ => absurd h id
 | d + 1, s, m, L, cs, F, h, K, hr, hγ, hL, hN, hm, hF => by
  have w0 : Wf s := K.wf hw0
  refine Cl.enter Tryz.f48 fn48 rfl rfl rfl ?_
  refine run1 ?_
  refine mk_gen (cs := cs) (M := fun s' => Wo _ _ _ _ _ s' _) fun s1 r1 n1 k1 => ?_
  have w1 : Wf s1 := k1.wf w0
  have gd : good (some ⟨s.nx, 0, none⟩) := good_b
  have hrl := hr.lt w0
  have rr1 : Rw s1 p L γ := hr.kp w0 k1 id
  have K1 : Kp (fun c => s0.nx ≤ c) s0 s1 := K.trans (k1.mono fun _ h => absurd h id)
  rcases h with ⟨q, c, b, q', c', rfl, h1, h2, h3⟩ | ⟨q, c, q', c', css, Fs, rfl, h1, h2, hl60, h3, h4, h5⟩
  ·have l0 : ldq s1 (qadd (some ⟨s.nx, 0, none⟩) 0) = some (.bool false) := r1.f1 rfl
   have l1 : ldq s1 (qadd (some ⟨s.nx, 0, none⟩) 1) = some (.slice q b.length c) := r1.f1 rfl
   refine run1 ?_
   refine Wo.call rfl (Xc.call ok59 rfl) rfl ((alone_ok (At.kpN h1 hw0 K1) (by omega)).mono ?_)
   rintro v s' ⟨rfl, e'⟩; rw [e']; clear e' s'
   by_cases ha : b.length = 1 ∧ b.getD 0 0 < 128
   ·rw [fS, if_pos ha] at h3
    subst h3
    refine run1 ?_
    refine Wo.call rfl (Xc.call ok61 rfl) rfl ((wend_ok w1 rr1 hL (by omega) hm (At.kpN h1 hw0 K1) hF).mono ?_)
    rintro v s2 ⟨rfl, r2, n2, k2⟩
    refine run1 ?_
    exact Lv.ret rfl ⟨rfl, r2, (k1.mono fun _ h => absurd h id).trans k2⟩
   ·rw [fS, if_neg ha] at h3
    have hFl : F.length = (hd 128 b.length).length + b.length := by rw [h3, List.length_append]
    refine run1 ?_
    refine W.dr [(0, .none, 0), (1, .none, 0), (2, .reads, 2), (3, .acts, 7), (4, .none, 0), (5, .reads, 16), (6, .none, 48), (7, .acts, 127), (8, .none, 255)] (by kernel_rfl) rfl (run1 ?_)
    refine Wd.call rfl (Xc.call ok61 rfl) rfl ((wend_ok w1 rr1 hL (by omega) hm (At.kpN h1 hw0 K1) (by omega)).mono ?_)
    rintro v s2 ⟨rfl, r2, n2, k2⟩
    refine ⟨k2.le, ?_⟩
    have w2 : Wf s2 := k2.wf w1
    have l12 : ldq s2 (qadd (some ⟨s.nx, 0, none⟩) 1) = some (.slice q b.length c) := (r1.kp w1 k2 (by omega)).f1 rfl
    have hL2 : (lov L (m - b.length) (b.map nB)).length = N := by rw [lov_length (by rw [List.length_map]; omega), hL]
    refine run1 ?_
    refine Wd.call rfl (Xc.call ok62 rfl) rfl ((whead_ok (base := 128) (.inl rfl) w2 r2 hL2 (by omega) (by omega) h2 (by omega)).mono ?_)
    rintro v s3 ⟨rfl, r3, k3⟩
    refine ⟨k3.le, run1 ?_⟩
    have e : m - b.length - (hd 128 b.length).length = m - F.length := by omega
    rw [e] at r3 ⊢
    refine Lv.ret rfl ⟨rfl, ?_, ((k1.mono fun _ h => absurd h id).trans k2).trans k3⟩
    rw [lov_at (by omega) (by omega), ← h3] at r3
    exact r3
  ·have l0 : ldq s1 (qadd (some ⟨s.nx, 0, none⟩) 0) = some (.bool true) := r1.f1 rfl
   have l1 : ldq s1 (qadd (some ⟨s.nx, 0, none⟩) 1) = some (.slice q' 0 c') := r1.f1 rfl
   have l2 : ldq s1 (qadd (some ⟨s.nx, 0, none⟩) 2) = some (.slice q Fs.length c) := r1.f1 rfl
   have hFl : F.length = (hd 192 Fs.flatten.length).length + Fs.flatten.length := by rw [h5, fL, List.length_append]
   refine run1 ?_
   refine Wo.call rfl (Xc.call ok59 rfl) rfl (alone0_ok.mono ?_)
   rintro v s' ⟨rfl, e'⟩; rw [e']; clear e' s'
   refine run1 ?_
   refine Wo.val rfl (Xv.subZ rfl rfl (by omega) (by omega) rfl) rfl ?_
   rw [show (Value.int .i64 ((Fs.length : Int) - ((1 : Nat) : Int))) = zI Fs.length from zI_eq]
   refine run1 ?_
   refine W.loop (α := Nat × St) (fun a => [(0, .slice (some ⟨p, 0, none⟩) m (sure N)), (3, .pointer (some ⟨s.nx, 0, none⟩)), (5, .slice (some ⟨p, 0, none⟩) (m - (Fs.drop a.1).flatten.length) (sure N)), (6, zI a.1)]) (fun _ => []) (fun a => a.2)
    (fun a => a.1 ≤ Fs.length ∧ Rw a.2 p (lov L (m - (Fs.drop a.1).flatten.length) ((Fs.drop a.1).flatten.map nB)) γ ∧ Kp (fun c => c = γ) s1 a.2) (fun a => a.1) (Fs.length, s1) ⟨Nat.le_refl _, ?_, .refl⟩ (.cons rfl (.cons rfl (.cons ?_ (.cons rfl .nil)))) rfl rfl (by show Fs.length < _; omega) ?_
   ·show Rw s1 p (lov L (m - (Fs.drop Fs.length).flatten.length) ((Fs.drop Fs.length).flatten.map nB)) γ
    rw [List.drop_length, List.flatten_nil, List.map_nil, lov_nil]; exact rr1
   ·show some (Value.slice (some ⟨p, 0, none⟩) m (sure N)) = some (Value.slice (some ⟨p, 0, none⟩) (m - (Fs.drop Fs.length).flatten.length) (sure N))
    rw [List.drop_length, List.flatten_nil]; rfl
   rintro ⟨j, t0⟩ ⟨i1, i2, i3⟩
   simp only at i1 i2 i3
   dsimp only
   have wt : Wf t0 := i3.wf w1
   have Kt : Kp (fun c => s0.nx ≤ c) s0 t0 := K1.trans (i3.mono fun c h => by subst h; exact hγ)
   have hdl := flat_dlen (Fs := Fs) (i := j)
   have hLt : (lov L (m - (Fs.drop j).flatten.length) ((Fs.drop j).flatten.map nB)).length = N := by rw [lov_length (by rw [List.length_map]; omega), hL]
   have r1t := r1.kp w1 i3 (by omega)
   cases j with
   | zero =>
    rw [List.drop_zero] at i2 hLt ⊢
    have hneg : ¬ (0 : Int) ≤ Int.negSucc 0 := by decide
    refine run1 ?_
    have e : m - (m - Fs.flatten.length) = Fs.flatten.length := by omega
    rw [e]
    refine Wo.call rfl (Xc.call ok62 rfl) rfl ((whead_ok (base := 192) (.inr rfl) wt i2 hLt (by omega) (by omega) (by omega) (by omega)).mono ?_)
    rintro v s3 ⟨rfl, r3, k3⟩
    refine run1 ?_
    have e : m - Fs.flatten.length - (hd 192 Fs.flatten.length).length = m - F.length := by omega
    rw [e] at r3 ⊢
    refine Lv.ret rfl ⟨rfl, ?_, ((k1.mono fun _ h => absurd h id).trans i3).trans k3⟩
    rw [lov_at (by omega) (by omega), show hd 192 Fs.flatten.length ++ Fs.flatten = F from h5.symm] at r3
    exact r3
   | succ i =>
    have hi : i < Fs.length := i1
    have hpos : (0 : Nat) ≤ i := Nat.zero_le _
    obtain ⟨x, hx⟩ : ∃ x, css[i]? = some x := ⟨css[i]'(by omega), List.getElem?_eq_getElem _⟩
    obtain ⟨G, hG⟩ : ∃ G, Fs[i]? = some G := ⟨Fs[i]'hi, List.getElem?_eq_getElem _⟩
    have hFm := h4 i x G hx hG
    have fd := flat_drop hG
    have fdl : (Fs.drop i).flatten.length = G.length + (Fs.drop (i + 1)).flatten.length := by rw [fd, List.length_append]
    have fd2 := flat_dlen (Fs := Fs) (i := i)
    obtain ⟨gq, lx⟩ := kid (At.kpN h1 hw0 Kt) h3 hx
    have lt2 : ldq t0 (qadd (some ⟨s.nx, 0, none⟩) 2) = some (.slice q Fs.length c) := r1t.f1 rfl
    show W _ _ [(0, .slice (some ⟨p, 0, none⟩) m (sure N)), (3, .pointer (some ⟨s.nx, 0, none⟩)), (5, .slice (some ⟨p, 0, none⟩) (m - (Fs.drop (i + 1)).flatten.length) (sure N)), (6, nI i)] _ _ _
    refine run1 ?_
    refine Wo.call rfl (Xc.call ok48 rfl) rfl ((witem_ok hw0 hFm Kt i2 hγ hLt hN (by omega) (by omega)).mono ?_)
    rintro v t1 ⟨rfl, g1, g2⟩
    refine run1 ?_
    refine Wo.val rfl (Xv.subZ rfl rfl (by omega) (by omega) rfl) rfl ?_
    rw [show (Value.int .i64 ((i : Int) - ((1 : Nat) : Int))) = zI i from zI_eq]
    refine run1 ?_
    have e : m - (Fs.drop (i + 1)).flatten.length - G.length = m - (Fs.drop i).flatten.length := by omega
    rw [e] at g1 ⊢
    refine rnd.n (i, t1) ⟨by show i ≤ Fs.length; omega, ?_, i3.trans g2⟩ (by show i < i + 1; omega) (.cons rfl (.cons rfl (.cons rfl (.cons rfl .nil)))) rfl rfl
    rw [lov_at (by omega) (by omega), ← fd] at g1
    exact g1
theorem form_pos (h : Fm s d cs F) : 0 < F.length := by
 cases d with
 | zero => exact absurd h id
 | succ d =>
  rcases h with ⟨q, c, b, q', c', rfl, h1, h2, h3⟩ | ⟨q, c, q', c', css, Fs, rfl, h1, h2, hl60, h3, h4, h5⟩
  ·rw [h3, fS]
   split
   ·omega
   ·rw [List.length_append]; have := hd_pos (n := b.length) (base := 128); omega
  ·rw [h5, fL, List.length_append]; have := hd_pos (n := Fs.flatten.length) (base := 192); omega
theorem encode_ok (w0 : Wf s) (h : Fm s d cs F) (hd : d ≤ 80) (hF : F.length ≤ 1048576) :
  Cl B (.call 27 [.agg ⟨cs⟩]) s fun v s' => ∃ b, v = .tuple ⟨[.slice (some ⟨b, 0, none⟩) F.length (sure F.length), nI 0]⟩ ∧ s.nx ≤ b ∧ Rw s' b (F.map nB) b ∧ Kn s s' := by
 obtain ⟨x3, x1⟩ := h.len
 have hp := form_pos h
 refine Cl.enter Tryz.f27 fn27 rfl rfl rfl ?_
 refine run1 ?_
 refine mk_gen (cs := cs) (M := fun s' => Wo _ _ _ _ _ s' _) fun s1 r1 n1 k1 => ?_
 have w1 : Wf s1 := k1.wf w0
 have l1 := r1.all (n := 3) x3 (by decide)
 refine run1 ?_
 refine Wo.call rfl (Xc.call ok45 rfl) rfl ((deeper_ok w1 (h.kn w0 k1) hd (by decide)).mono ?_)
 rintro v s2 ⟨rfl, k2⟩
 have w2 : Wf s2 := k2.wf w1
 have l2 := (r1.kp w1 k2 id).all (n := 3) x3 (by decide)
 refine run1 ?_
 refine Wo.call rfl (Xc.call ok46 rfl) rfl ((may_ok w2 (h.kn w0 (k1.call k2))).mono ?_)
 rintro v s3 ⟨rfl, k3⟩
 have w3 : Wf s3 := k3.wf w2
 have k13 : Kn s1 s3 := k2.call k3
 have l3 := (r1.kp w1 k13 id).all (n := 3) x3 (by decide)
 refine run1 ?_
 refine Wo.call rfl (Xc.call ok47 rfl) rfl ((size_ok w3 (h.kn w0 (k1.call k13)) hF).mono ?_)
 rintro v s4 ⟨rfl, k4⟩
 have w4 : Wf s4 := k4.wf w3
 have k14 : Kn s1 s4 := k13.call k4
 have hb : ¬ 1048576 < F.length := by omega
 refine run1 ?_
 refine Wo.val rfl (Xv.make rfl rfl rfl rfl rfl (Nat.le_refl _) rfl (by omega) (by omega)) rfl ?_
 refine mk_gen (M := fun s' => Wo _ _ _ _ _ s' _) fun s5 r5 n5 k5 => ?_
 have r5' : Rw s5 s4.nx ((List.replicate F.length 0).map nB) s4.nx := by
  rw [← rep_flat]; exact r5
 have w5 : Wf s5 := k5.wf w4
 have k05 : Kn s s5 := k1.call (k14.call k5)
 have l5 := (r1.kp w1 (k14.call k5) id).all (n := 3) x3 (by decide)
 have h04 : s.nx ≤ s4.nx := Nat.le_trans k1.le k14.le
 refine run1 ?_
 refine Wo.call rfl (Xc.call ok48 rfl) rfl ((witem_ok (N := F.length) w0 h (k05.mono fun _ h => absurd h id) r5' h04 (by simp) (by omega) (Nat.le_refl _) (Nat.le_refl _)).mono ?_)
 rintro v s6 ⟨rfl, r6, k6⟩
 rw [Nat.sub_self, lov_all (by simp)] at r6
 refine run1 ?_
 exact Lv.ret rfl ⟨s4.nx, rfl, h04, r6, k05.app k6 h04⟩
theorem number_ok (w0 : Wf s) (hn : n < 2 ^ 62) :
  Cl B (.call 49 [.int .i64 (.ofNat n)]) s fun v s' => ∃ b, v = .tuple ⟨[.agg ⟨[.bool false, .slice (some ⟨b, 0, none⟩) (dgs n).length (sure (dgs n).length), .slice none 0 0]⟩, nI 0]⟩ ∧ s.nx ≤ b ∧ Rw s' b ((dgs n).map nB) b ∧ Kn s s' := by
 refine Cl.enter Tryz.f49 fn49 rfl rfl rfl ?_
 have h0 : ¬ n < 0 := Nat.not_lt_zero _
 refine run1 ?_
 refine mk_gen (cs := z3) (M := fun s' => Wo _ _ _ _ _ s' _) fun s1 r1 n1 k1 => ?_
 have w1 : Wf s1 := k1.wf w0
 rw [show n.mod 18446744073709551616 = n from Nat.mod_eq_of_lt (by omega)]
 refine Wo.call rfl (Xc.call ok63 rfl) rfl ((digits_ok w1 hn).mono ?_)
 rintro v s2 ⟨b, rfl, hb, r2, k2⟩
 have w2 : Wf s2 := k2.wf w1
 refine run1 ?_
 refine Wo.st rfl rfl rfl rfl rfl rfl rfl (by intro v hv; simp at hv; rcases hv with rfl | rfl | rfl <;> rfl) (r1.kp w1 k2 id) (by decide) fun s3 r3 n3 k3 => ?_
 have r3' : Rw s3 s.nx [.bool false, .slice (some ⟨b, 0, none⟩) (dgs n).length (sure (dgs n).length), .slice none 0 0] s.nx := r3
 refine run1 ?_
 have hcl := cell_at (B := B) (t := 69) rfl rfl r3' rfl rfl
 refine Lv.ret (vs := [.agg ⟨[.bool false, .slice (some ⟨b, 0, none⟩) (dgs n).length (sure (dgs n).length), .slice none 0 0]⟩, nI 0]) ?_ ⟨b, rfl, by omega, r2.kp w2 k3 (by omega), (k1.call k2).app k3 (Nat.le_refl _)⟩
 show (match cell1 B.P (.pointer (some ⟨s.nx, 0, none⟩)) 69 s3, some [nI 0] with | some v, some vs => some (v :: vs) | _, _ => none) = _
 rw [hcl]
end Go.Proofs.YteldpcbhfbgomaaGreatDoor
namespace Go.Sy
open Go Go.Ev
theorem Wo.dfr {X : Fx} {env : Env} {df : List Deferred} {s : St} {Q : Post} {all os : List Oper} {ty : TypeId} {pos : String} {af : Array Edge} {g : Option (Nat × Bool)} {f : FuncId} {args : Array Operand} {ts : Array TypeId} {vs : List Value} (hg : wantsE all env g = some true) (hrd : X.rd = none) (ha : evs env args.toList = some vs)
  (k : Wo X all os env (⟨.fn (.func f) #[], ⟨vs⟩⟩ :: df) s Q) : Wo X all (⟨none, .defer ⟨.value (.func f), args, ts⟩, ty, pos, af, g⟩ :: os) env df s Q := by
 constructor; intro tm hf
 have hx : exec X.P (.defer ⟨.value (.func f), args, ts⟩) tm s = .ok (.defer ⟨.fn (.func f) #[], ⟨vs⟩⟩) s := by
  show Re.ok (.defer ⟨.fn (.func f) #[], ⟨appO [] (opds tm args.toList)⟩⟩) s = _
  rw [evs_opds hf ha, appO_eq, List.nil_append]
 have ho : ∀ rec, oper X.P rec X.rd all ⟨none, .defer ⟨.value (.func f), args, ts⟩, ty, pos, af, g⟩ (.mk X.nt tm df) s = .ok (.mk X.nt tm (⟨.fn (.func f) #[], ⟨vs⟩⟩ :: df)) s := fun rec => by
  unfold oper
  simp only [wants_ok hf hg, hx, after, hrd]
  rfl
 obtain ⟨e, env', tm', df', s2, k1, k2, k3⟩ := (k).w tm hf
 exact ⟨e, env', tm', df', s2, k1.mono fun m a => by dsimp only at a; show asN (thenO (oper _ _ _ _ _ _ _) _) = _; rw [ho]; exact a, k2, k3⟩
theorem Cl.toLate {B : Bx} {f : FuncId} {args : List Value} {s : St} {Q : Value → St → Prop} (hk : B.hook f = none) (h : Cl B (.call f args) s Q) : Cl B (.late f args) s Q := by
 obtain ⟨v, s', h1, h2⟩ := h
 refine ⟨v, s', h1.mono fun m hm => ?_, h2⟩
 cases m with
 | zero => cases hm
 | succ m =>
  have hm' : (match B.hook f with | some h => orElse (h args s) (Ev.enter B.P (run B.P B.hook m) f args) s | none => Ev.enter B.P (run B.P B.hook m) f args s) = .ok v s' := hm
  rw [hk] at hm'
  exact hm'
theorem Lv.retD {B : Bx} {rs : List ResultVar} {Q : Value → St → Prop} {env : Env} {df : List Deferred} {s : St} (hl : df.length ≤ 100) (h : Dfr B df s fun s => ∃ vs, resE B.P env s rs = some vs ∧ Q (rv vs) s) : Lv B rs Q .ret env df s := ⟨⟨hl, h⟩⟩
end Go.Sy
namespace Go.Proofs.YteldpcbhfbgomaaGreatDoor
open Go Go.Ev Go.Sy
set_option maxRecDepth 100000
variable {s : St} {p γ δ n c : Nat} {q : Option Addr} {S M A D O R : List Nat} {nb cb r1 n1 r2 n2 r3 n3 : Nat}
theorem code_new {b : Nat} {M : MpE} {H : List Nat}  (w0 : Wf s) (_hT : TabAt s) (hb : Rw s b (bkT nb cb S (bl 0 r1 n1 r2 n2 r3 n3)) γ) (hM : Mp s r2 M) (hr : r2 ≠ γ) (hS : S.length = 32) (hSb : ∀ x ∈ S, x < 256) (hq : At s q (A.map nB)) (hA : ∀ x ∈ A, x < 256) (hc : Cap A.length c 1) (hl : A.length < 2 ^ 40) (hcb : cb ≤ 256) (hH : H = cutOf (hmc S A) cb) (hn2 : n2 < 2 ^ 60) (hno : mget H M = none) (hTk : ∀ s', Kp (fun c => c = γ) s s' → TabAt s') (hqg : ∀ δ, Sl s q (A.map nB) δ → δ ≠ γ ∧ δ ≠ r2) :
  Cl B (.call 32 [.pointer (some ⟨b, 0, none⟩), .slice q A.length c]) s fun v s' => v = hsh H ∧ ∃ ql cl qa ca γl γa, Rw s' b (bkT nb cb S (bl 0 r1 n1 r2 (n2 + 1) r3 n3)) γ ∧ Mp s' r2 (mput H (.slice ql 1 cl) M) ∧ Sl s' ql [.slice qa A.length ca] γl ∧ s.nx ≤ γl ∧ Sl s' qa (A.map nB) γa ∧ s.nx ≤ γa ∧ Kp (fun c => c = γ ∨ c = r2) s s' := by
 have hHl : H.length = 32 := by rw [hH]; exact ctN_length.trans hmc_length
 refine Cl.enter Tryz.f32 fn32 rfl rfl rfl ?_
 have gd : good (some ⟨b, 0, none⟩) := good_b
 refine run1 ?_
 refine mk_gen (cs := (List.replicate 32 0).map nB) (M := fun s' => Wo _ _ _ _ _ s' _) fun s1 z1 m1 k1 => ?_
 have w1 : Wf s1 := k1.wf w0
 have b1 := hb.kp w0 k1 id
 have hbl := hb.lt w0
 have hrl := hM.lt w0
 refine Wo.val rfl (Xv.pEq rfl rfl rfl) rfl (run1 ?_)
 refine Wo.val rfl (Xv.nilC rfl) rfl (run1 ?_)
 refine Wo.call rfl (Xc.call ok35 rfl) rfl ((lock_ok (o := 34) w1 b1 (by rw [show 34 = 34 + 0 from rfl, bkT_at hS]; rfl)).mono ?_)
 rintro v s2 ⟨b2, m2, k2⟩
 rw [show lov (bkT nb cb S (bl 0 r1 n1 r2 n2 r3 n3)) 34 [Value.int .i32 1] = bkT nb cb S (bl 1 r1 n1 r2 n2 r3 n3) from bkT_set (i := 0) hS (show 0 < 8 by decide)] at b2
 have w2 : Wf s2 := k2.wf w1
 refine run1 ?_
 refine Wo.val rfl (Xv.nilC rfl) rfl (run1 ?_)
 refine Wo.dfr rfl rfl rfl ?_
 refine run1 ?_
 have k02 : Kp (fun c => c = γ) s s2 := (k1.mono fun _ h => absurd h id).trans k2
 have z2 := z1.kp w1 k2 (by omega)
 obtain ⟨δ, d1, d2⟩ := hq.sl
 have dlt := d2 w0
 have hδ := (hqg δ d1).1
 have q2 : At s2 q (A.map nB) := (d1.kp w0 k02 hδ).at
 refine Wo.call rfl (Xc.call ok50 rfl) rfl ((codeOf_ok w2 (hTk s2 k02) b2 hS hSb q2 hA hc (by omega) hcb).mono ?_)
 rintro v s3 ⟨rfl, k3⟩
 rw [← hH]
 have w3 : Wf s3 := k3.wf w2
 refine run1 ?_
 refine mk_gen (cs := (List.replicate 32 0).map nB) (M := fun s' => Wo _ _ _ _ _ s' _) fun s4 z4 m4 k4 => ?_
 have w4 : Wf s4 := k4.wf w3
 refine Wo.st rfl rfl rfl rfl rfl rfl (by rw [List.length_map, hHl]) one_nB z4 (by rw [List.length_map, List.length_replicate]; decide) fun s5 z5 m5 k5 => ?_
 rw [lov_all (by rw [List.length_map, List.length_map, hHl, List.length_replicate])] at z5
 have k25 : Kn s2 s5 := k3.call (k4.app k5 (Nat.le_refl _))
 have w5 : Wf s5 := k25.wf w2
 have k05 : Kp (fun c => c = γ) s s5 := k02.trans (k25.mono fun _ h => absurd h id)
 have l5 := z5.all (n := 32) (by rw [List.length_map, hHl]) (by decide)
 have b5 := b2.kp w2 k25 id
 have M5 : Mp s5 r2 M := hM.kp w0 k05 hr
 refine run1 ?_
 refine W.dr [(0, .none, 0), (1, .none, 1), (2, .none, 3), (3, .reads, 0), (4, .none, 0), (5, .acts, 31)] (by kernel_rfl) rfl (run1 ?_)
 refine Wd.val rfl (Xv.nilC rfl) rfl (Nat.le_refl _) (run1 ?_)
 refine Wd.read rfl (Xv.ldN rfl rfl rfl l5) rfl eqV_h ⟨Xv.ldN rfl rfl rfl l5, trivial⟩ (run1 ?_)
 refine Wd.call rfl (Xc.call ok51 rfl) rfl ((add_new (o := 38) (k := n2) w5 b5 (by rw [show 38 = 34 + 4 from rfl, bkT_at hS]; rfl) (by rw [show 38 + 1 = 34 + 5 from rfl, bkT_at hS]; rfl) M5 hr hHl hno (d1.kp w0 k05 hδ).at hl hn2).mono ?_)
 rintro v s6 ⟨ql, cl, qa, ca, γl, γa, M6, b6, L6, gL, A6, gA, k6⟩
 refine ⟨k6.le, ?_⟩
 have b6 : Rw s6 b (bkT nb cb S (bl 1 r1 n1 r2 (n2 + 1) r3 n3)) γ := by
  have e : (bkT nb cb S (bl 1 r1 n1 r2 n2 r3 n3)).set 39 (nI (n2 + 1)) = bkT nb cb S (bl 1 r1 n1 r2 (n2 + 1) r3 n3) := by
   rw [← lov_one (by rw [bkT_len hS]; exact (show 39 < 34 + 8 by decide))]
   exact bkT_set (i := 5) hS (show 5 < 8 by decide)
  rw [← e]; exact b6
 have h25 := k25.le
 have h02 := k02.le
 have h2 := k2.le
 have h1 := k1.le
 have w6 : Wf s6 := k6.wf w5
 have z6 : Rw s6 s3.nx (H.map nB) s3.nx := z5.kp w5 k6 (by have := k2.le; have := k3.le; have := k1.le; omega)
 have l6 := z6.all (n := 32) (by rw [List.length_map, hHl]) (by decide)
 have z26 : Rw s6 s.nx ((List.replicate 32 0).map nB) s.nx := (z2.kp w2 k25 id).kp w5 k6 (by omega)
 refine run1 ?_
 refine Wo.st rfl rfl rfl rfl rfl rfl (by rw [List.length_map, hHl]) one_nB z26 (by rw [List.length_map, List.length_replicate]; decide) fun s7 z7 m7 k7 => ?_
 rw [lov_all (by rw [List.length_map, List.length_map, hHl, List.length_replicate])] at z7
 have w7 : Wf s7 := k7.wf w6
 refine run1 ?_
 refine Lv.retD (show 1 ≤ 100 by decide) ⟨by kernel_rfl, Cl.toLate rfl ((unlock_ok (o := 34) (b6.kp w6 k7 (by omega)) (by rw [show 34 = 34 + 0 from rfl, bkT_at hS]; rfl)).mono ?_)⟩
 rintro v s8 ⟨b8, m8, k8⟩
 rw [show lov (bkT nb cb S (bl 1 r1 n1 r2 (n2 + 1) r3 n3)) 34 [Value.int .i32 0] = bkT nb cb S (bl 0 r1 n1 r2 (n2 + 1) r3 n3) from bkT_set (i := 0) hS (show 0 < 8 by decide)] at b8
 have z8 := z7.kp w7 k8 (by omega)
 have hcl := cell_at (B := B) (t := 23) (n := 32) (k := .ar 32 5) rfl rfl z8 (by rw [List.length_map, hHl]) rfl
 refine ⟨[hsh H], ?_, rfl, ql, cl, qa, ca, γl, γa, b8, (M6.kp w6 k7 (by omega)).kp w7 k8 hr, (L6.kp w6 k7 (by omega)).kp w7 k8 (by omega), by omega, (A6.kp w6 k7 (by omega)).kp w7 k8 (by omega), by omega, ?_⟩
 rotate_left
 ·have k08 : Kp (fun c => c = γ ∨ c = r2 ∨ s.nx ≤ c) s s8 := ((((k05.mono fun c h => .inl h).trans (k6.mono fun c h => by rcases h with h | h; exact .inl h; exact .inr (.inl h))).trans (k7.mono fun c h => .inr (.inr (by omega)))).trans (k8.mono fun c h => .inl h))
  exact ⟨k08.le, k08.wf, fun w b o hb hc => k08.kp w b o hb fun h => by
   rcases h with h | h | h
   ·exact hc (.inl h)
   ·exact hc (.inr h)
   ·exact absurd (w.lt b o hb).2 (by omega)⟩
 show (match cell1 B.P (.pointer (some ⟨s.nx, 0, none⟩)) 23 s8, some [] with | some v, some vs => some (v :: vs) | _, _ => none) = _
 rw [hcl]; rfl
theorem code_old {b : Nat} {M : MpE} {H : List Nat} {ql qa : Option Addr} {cl ca γl γa : Nat} (w0 : Wf s) (_hT : TabAt s) (hb : Rw s b (bkT nb cb S (bl 0 r1 n1 r2 n2 r3 n3)) γ) (hM : Mp s r2 M) (hr : r2 ≠ γ) (hS : S.length = 32) (hSb : ∀ x ∈ S, x < 256) (hq : At s q (A.map nB)) (hA : ∀ x ∈ A, x < 256) (hc : Cap A.length c 1) (hl : A.length < 2 ^ 40) (hcb : cb ≤ 256) (hH : H = cutOf (hmc S A) cb) (hV : mget H M = some (.slice ql 1 cl)) (hL : Sl s ql [.slice qa A.length ca] γl) (gL : γl ≠ γ) (hAa : Sl s qa (A.map nB) γa) (gA : γa ≠ γ) (hTk : ∀ s', Kp (fun c => c = γ) s s' → TabAt s') (hqg : ∀ δ, Sl s q (A.map nB) δ → δ ≠ γ) :
  Cl B (.call 32 [.pointer (some ⟨b, 0, none⟩), .slice q A.length c]) s fun v s' => v = hsh H ∧ Rw s' b (bkT nb cb S (bl 0 r1 n1 r2 n2 r3 n3)) γ ∧ Kp (fun c => c = γ) s s' := by
 have hHl : H.length = 32 := by rw [hH]; exact ctN_length.trans hmc_length
 refine Cl.enter Tryz.f32 fn32 rfl rfl rfl ?_
 have gd : good (some ⟨b, 0, none⟩) := good_b
 refine run1 ?_
 refine mk_gen (cs := (List.replicate 32 0).map nB) (M := fun s' => Wo _ _ _ _ _ s' _) fun s1 z1 m1 k1 => ?_
 have w1 : Wf s1 := k1.wf w0
 have b1 := hb.kp w0 k1 id
 have hbl := hb.lt w0
 have hrl := hM.lt w0
 refine Wo.val rfl (Xv.pEq rfl rfl rfl) rfl (run1 ?_)
 refine Wo.val rfl (Xv.nilC rfl) rfl (run1 ?_)
 refine Wo.call rfl (Xc.call ok35 rfl) rfl ((lock_ok (o := 34) w1 b1 (by rw [show 34 = 34 + 0 from rfl, bkT_at hS]; rfl)).mono ?_)
 rintro v s2 ⟨b2, m2, k2⟩
 rw [show lov (bkT nb cb S (bl 0 r1 n1 r2 n2 r3 n3)) 34 [Value.int .i32 1] = bkT nb cb S (bl 1 r1 n1 r2 n2 r3 n3) from bkT_set (i := 0) hS (show 0 < 8 by decide)] at b2
 have w2 : Wf s2 := k2.wf w1
 refine run1 ?_
 refine Wo.val rfl (Xv.nilC rfl) rfl (run1 ?_)
 refine Wo.dfr rfl rfl rfl ?_
 refine run1 ?_
 have k02 : Kp (fun c => c = γ) s s2 := (k1.mono fun _ h => absurd h id).trans k2
 have z2 := z1.kp w1 k2 (by omega)
 obtain ⟨δ, d1, d2⟩ := hq.sl
 have dlt := d2 w0
 have hδ := hqg δ d1
 have q2 : At s2 q (A.map nB) := (d1.kp w0 k02 hδ).at
 refine Wo.call rfl (Xc.call ok50 rfl) rfl ((codeOf_ok w2 (hTk s2 k02) b2 hS hSb q2 hA hc (by omega) hcb).mono ?_)
 rintro v s3 ⟨rfl, k3⟩
 rw [← hH]
 have w3 : Wf s3 := k3.wf w2
 refine run1 ?_
 refine mk_gen (cs := (List.replicate 32 0).map nB) (M := fun s' => Wo _ _ _ _ _ s' _) fun s4 z4 m4 k4 => ?_
 have w4 : Wf s4 := k4.wf w3
 refine Wo.st rfl rfl rfl rfl rfl rfl (by rw [List.length_map, hHl]) one_nB z4 (by rw [List.length_map, List.length_replicate]; decide) fun s5 z5 m5 k5 => ?_
 rw [lov_all (by rw [List.length_map, List.length_map, hHl, List.length_replicate])] at z5
 have k25 : Kn s2 s5 := k3.call (k4.app k5 (Nat.le_refl _))
 have w5 : Wf s5 := k25.wf w2
 have k05 : Kp (fun c => c = γ) s s5 := k02.trans (k25.mono fun _ h => absurd h id)
 have l5 := z5.all (n := 32) (by rw [List.length_map, hHl]) (by decide)
 have b5 := b2.kp w2 k25 id
 have M5 : Mp s5 r2 M := hM.kp w0 k05 hr
 refine run1 ?_
 refine W.dr [(0, .none, 0), (1, .none, 1), (2, .none, 3), (3, .reads, 0), (4, .none, 0), (5, .acts, 31)] (by kernel_rfl) rfl (run1 ?_)
 refine Wd.val rfl (Xv.nilC rfl) rfl (Nat.le_refl _) (run1 ?_)
 refine Wd.read rfl (Xv.ldN rfl rfl rfl l5) rfl eqV_h ⟨Xv.ldN rfl rfl rfl l5, trivial⟩ (run1 ?_)
 refine Wd.call rfl (Xc.call ok51 rfl) rfl ((add_old (o := 38) w5 b5 (by rw [show 38 = 34 + 4 from rfl, bkT_at hS]; rfl) M5 hHl hV (hL.kp w0 k05 gL).at (hAa.kp w0 k05 gA).at (d1.kp w0 k05 hδ).at).mono ?_)
 rintro v s6 k6
 refine ⟨k6.le, ?_⟩
 have b6 := b5.kp w5 k6 id
 have w6 : Wf s6 := k6.wf w5
 have z6 : Rw s6 s3.nx (H.map nB) s3.nx := z5.kp w5 k6 id
 have l6 := z6.all (n := 32) (by rw [List.length_map, hHl]) (by decide)
 have z26 : Rw s6 s.nx ((List.replicate 32 0).map nB) s.nx := (z2.kp w2 k25 id).kp w5 k6 id
 refine run1 ?_
 refine Wo.st rfl rfl rfl rfl rfl rfl (by rw [List.length_map, hHl]) one_nB z26 (by rw [List.length_map, List.length_replicate]; decide) fun s7 z7 m7 k7 => ?_
 rw [lov_all (by rw [List.length_map, List.length_map, hHl, List.length_replicate])] at z7
 have w7 : Wf s7 := k7.wf w6
 refine run1 ?_
 refine Lv.retD (show 1 ≤ 100 by decide) ⟨by kernel_rfl, Cl.toLate rfl ((unlock_ok (o := 34) (b6.kp w6 k7 (by omega)) (by rw [show 34 = 34 + 0 from rfl, bkT_at hS]; rfl)).mono ?_)⟩
 rintro v s8 ⟨b8, m8, k8⟩
 rw [show lov (bkT nb cb S (bl 1 r1 n1 r2 n2 r3 n3)) 34 [Value.int .i32 0] = bkT nb cb S (bl 0 r1 n1 r2 n2 r3 n3) from bkT_set (i := 0) hS (show 0 < 8 by decide)] at b8
 have z8 := z7.kp w7 k8 (by omega)
 have hcl := cell_at (B := B) (t := 23) (n := 32) (k := .ar 32 5) rfl rfl z8 (by rw [List.length_map, hHl]) rfl
 refine ⟨[hsh H], ?_, rfl, b8, ?_⟩
 rotate_left
 ·have k08 : Kp (fun c => c = γ ∨ s.nx ≤ c) s s8 := ((((k05.mono fun c h => .inl h).trans (k6.mono fun c h => absurd h id)).trans (k7.mono fun c h => .inr (by omega))).trans (k8.mono fun c h => .inl h))
  exact ⟨k08.le, k08.wf, fun w b o hb hc => k08.kp w b o hb fun h => by
   rcases h with h | h
   ·exact hc h
   ·exact absurd (w.lt b o hb).2 (by omega)⟩
 show (match cell1 B.P (.pointer (some ⟨s.nx, 0, none⟩)) 23 s8, some [] with | some v, some vs => some (v :: vs) | _, _ => none) = _
 rw [hcl]; rfl
theorem len_ok {b : Nat} (w0 : Wf s) (hb : Rw s b (bkT nb cb S (bl 0 r1 n1 r2 n2 r3 n3)) γ) (hS : S.length = 32) :
  Cl B (.call 13 [.pointer (some ⟨b, 0, none⟩)]) s fun v s' => v = .tuple ⟨[nI n1, nI n2]⟩ ∧ Kp (fun c => c = γ) s s' := by
 refine Cl.enter Tryz.f13 fn13 rfl rfl rfl ?_
 have gd : good (some ⟨b, 0, none⟩) := good_b
 refine run1 ?_
 refine Wo.val rfl (Xv.pEq rfl rfl rfl) rfl (run1 ?_)
 refine Wo.val rfl (Xv.nilC rfl) rfl (run1 ?_)
 refine Wo.call rfl (Xc.call ok35 rfl) rfl ((lock_ok (o := 34) w0 hb (by rw [show 34 = 34 + 0 from rfl, bkT_at hS]; rfl)).mono ?_)
 rintro v s2 ⟨b2, m2, k2⟩
 rw [show lov (bkT nb cb S (bl 0 r1 n1 r2 n2 r3 n3)) 34 [Value.int .i32 1] = bkT nb cb S (bl 1 r1 n1 r2 n2 r3 n3) from bkT_set (i := 0) hS (show 0 < 8 by decide)] at b2
 refine run1 ?_
 refine Wo.val rfl (Xv.nilC rfl) rfl (run1 ?_)
 refine Wo.dfr rfl rfl rfl ?_
 refine run1 ?_
 have e1 : ldq s2 (qadd (qadd (some ⟨b, 0, none⟩) 36) 1) = some (nI n1) := At.one (o := 37) b2 (by rw [show 37 = 34 + 3 from rfl, bkT_at hS]; rfl) rfl
 have e2 : ldq s2 (qadd (qadd (some ⟨b, 0, none⟩) 38) 1) = some (nI n2) := At.one (o := 39) b2 (by rw [show 39 = 34 + 5 from rfl, bkT_at hS]; rfl) rfl
 refine W.dr [(0, .none, 0), (1, .none, 1), (2, .none, 3), (3, .none, 7), (4, .reads, 15), (5, .none, 0), (6, .none, 32), (7, .none, 96), (8, .none, 224), (9, .reads, 480), (10, .none, 31), (11, .none, 2047)] (by kernel_rfl) rfl (run1 ?_)
 refine Wd.val rfl (Xv.nilC rfl) rfl (Nat.le_refl _) (run1 ?_)
 refine Wd.val rfl (Xv.nilC rfl) rfl (Nat.le_refl _) (run1 ?_)
 refine Lv.retD (show 1 ≤ 100 by decide) ⟨by kernel_rfl, Cl.toLate rfl ((unlock_ok (o := 34) b2 (by rw [show 34 = 34 + 0 from rfl, bkT_at hS]; rfl)).mono ?_)⟩
 rintro v s8 ⟨b8, m8, k8⟩
 exact ⟨_, rfl, rfl, k2.trans k8⟩
end Go.Proofs.YteldpcbhfbgomaaGreatDoor
