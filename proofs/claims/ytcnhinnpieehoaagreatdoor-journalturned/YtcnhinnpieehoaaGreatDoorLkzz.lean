import Derived.Test.YtcnhinnpieehoaaGreatDoorCazz
namespace Go.Proofs.YtcnhinnpieehoaaGreatDoor
open Go Go.Ev Go.Sy
set_option maxRecDepth 100000
variable {s s0 : St} {p γ δ n c m N d : Nat} {q : Option Addr} {A D F : List Nat} {L cs : List Value}
theorem flat_drop {Fs : List (List Nat)} {i : Nat} {G : List Nat} (h : Fs[i]? = some G) : (Fs.drop i).flatten = G ++ (Fs.drop (i + 1)).flatten := by
 obtain ⟨h1, h2⟩ := List.getElem?_eq_some_iff.1 h
 rw [List.drop_eq_getElem_cons h1, List.flatten_cons, h2]
theorem flat_dlen {Fs : List (List Nat)} {i : Nat} : (Fs.drop i).flatten.length ≤ Fs.flatten.length := by
 have := congrArg (fun l : List (List Nat) => l.flatten.length) (List.take_append_drop i Fs)
 simp only [List.flatten_append, List.length_append] at this
 omega
theorem lov_at {a b : List Nat} {o k : Nat} (h : k + a.length = o) (hl : o + b.length ≤ L.length) : lov (lov L o (b.map nB)) k (a.map nB) = lov L k ((a ++ b).map nB) := by
 have := lov_lov (l := L) (a := a.map nB) (b := b.map nB) (o := k) (by rw [List.length_map, List.length_map]; omega)
 rw [List.length_map, h, ← List.map_append] at this
 exact this
set_option maxHeartbeats 1600000 in
theorem witem_ok (hw0 : Wf s0) : ∀ {d : Nat} {s : St} {m : Nat} {L cs : List Value} {F : List Nat}, Fm s0 d cs F → Kp (fun c => s0.nx ≤ c) s0 s → Rw s p L γ → s0.nx ≤ γ → L.length = N → N < 2 ^ 40 → m ≤ N → F.length ≤ m →
  Cl B (.call 60 [.slice (some ⟨p, 0, none⟩) m (sure N), .agg ⟨cs⟩]) s fun v s' => v = .slice (some ⟨p, 0, none⟩) (m - F.length) (sure N) ∧ Rw s' p (lov L (m - F.length) (F.map nB)) γ ∧ Kp (fun c => c = γ) s s'
 | 0, _, _, _, _, _, h, _, _, _, _, _, _, _ => absurd h id
 | d + 1, s, m, L, cs, F, h, K, hr, hγ, hL, hN, hm, hF => by
  have w0 : Wf s := K.wf hw0
  refine Cl.enter Tryz.f60 fn60 rfl rfl rfl ?_
  refine run1 ?_
  refine mkO (cs := cs) fun s1 r1 n1 k1 => ?_
  have w1 : Wf s1 := k1.wf w0
  have gd : good (some ⟨s.nx, 0, none⟩) := good_b
  have hrl := hr.lt w0
  have rr1 : Rw s1 p L γ := hr.kp w0 k1 id
  have K1 : Kp (fun c => s0.nx ≤ c) s0 s1 := K.trans (k1.w)
  rcases h with ⟨q, c, b, q', c', rfl, h1, h2, h3⟩ | ⟨q, c, q', c', css, Fs, rfl, h1, h2, hl60, h3, h4, h5⟩
  ·have l0 : ldq s1 (qadd (some ⟨s.nx, 0, none⟩) 0) = some (.bool false) := r1.f1 rfl
   have l1 : ldq s1 (qadd (some ⟨s.nx, 0, none⟩) 1) = some (.slice q b.length c) := r1.f1 rfl
   refine run1 ?_
   refine Wo.call rfl (Xc.call ok90 rfl) rfl ((alone_ok (At.kpN h1 hw0 K1) (by omega)).mono ?_)
   rintro v s' ⟨rfl, e'⟩; rw [e']; clear e' s'
   by_cases ha : b.length = 1 ∧ b.getD 0 0 < 128
   ·rw [fS, if_pos ha] at h3
    subst h3
    refine run1 ?_
    refine Wo.call rfl (Xc.call ok92 rfl) rfl ((wend_ok w1 rr1 hL (by omega) hm (At.kpN h1 hw0 K1) hF).mono ?_)
    rintro v s2 ⟨rfl, r2, n2, k2⟩
    refine run1 ?_
    exact Lv.ret rfl ⟨rfl, r2, (k1.w).trans k2⟩
   ·rw [fS, if_neg ha] at h3
    have hFl : F.length = (hd 128 b.length).length + b.length := by rw [h3, List.length_append]
    refine run1 ?_
    refine W.dr [(0, .none, 0), (1, .none, 0), (2, .reads, 2), (3, .acts, 7), (4, .none, 0), (5, .reads, 16), (6, .none, 48), (7, .acts, 127), (8, .none, 255)] (by kernel_rfl) rfl (run1 ?_)
    refine Wd.call rfl (Xc.call ok92 rfl) rfl ((wend_ok w1 rr1 hL (by omega) hm (At.kpN h1 hw0 K1) (by omega)).mono ?_)
    rintro v s2 ⟨rfl, r2, n2, k2⟩
    refine ⟨k2.le, ?_⟩
    have w2 : Wf s2 := k2.wf w1
    have l12 : ldq s2 (qadd (some ⟨s.nx, 0, none⟩) 1) = some (.slice q b.length c) := (r1.kp w1 k2 (by omega)).f1 rfl
    have hL2 : (lov L (m - b.length) (b.map nB)).length = N := by rw [lov_length (by rw [List.length_map]; omega), hL]
    refine run1 ?_
    refine Wd.call rfl (Xc.call ok93 rfl) rfl ((whead_ok (base := 128) (.inl rfl) w2 r2 hL2 (by omega) (by omega) h2 (by omega)).mono ?_)
    rintro v s3 ⟨rfl, r3, k3⟩
    refine ⟨k3.le, run1 ?_⟩
    have e : m - b.length - (hd 128 b.length).length = m - F.length := by omega
    rw [e] at r3 ⊢
    refine Lv.ret rfl ⟨rfl, ?_, ((k1.w).trans k2).trans k3⟩
    rw [lov_at (by omega) (by omega), ← h3] at r3
    exact r3
  ·have l0 : ldq s1 (qadd (some ⟨s.nx, 0, none⟩) 0) = some (.bool true) := r1.f1 rfl
   have l1 : ldq s1 (qadd (some ⟨s.nx, 0, none⟩) 1) = some (.slice q' 0 c') := r1.f1 rfl
   have l2 : ldq s1 (qadd (some ⟨s.nx, 0, none⟩) 2) = some (.slice q Fs.length c) := r1.f1 rfl
   have hFl : F.length = (hd 192 Fs.flatten.length).length + Fs.flatten.length := by rw [h5, fL, List.length_append]
   refine run1 ?_
   refine Wo.call rfl (Xc.call ok90 rfl) rfl (alone0_ok.mono ?_)
   rintro v s' ⟨rfl, e'⟩; rw [e']; clear e' s'
   refine run1 ?_
   refine Wo.val rfl (Xv.subZ rfl rfl (by omega) (by omega) rfl) rfl ?_
   rw [show (Value.int .i64 ((Fs.length : Int) - ((1 : Nat) : Int))) = zI Fs.length from zI_eq]
   refine run1 ?_
   refine W.loop (α := Nat × St) (fun a => [(0, .slice (some ⟨p, 0, none⟩) m (sure N)), (3, .pointer (some ⟨s.nx, 0, none⟩)), (5, .slice (some ⟨p, 0, none⟩) (m - (Fs.drop a.1).flatten.length) (sure N)), (6, zI a.1)]) (fun _ => []) (fun a => a.2)
    (fun a => a.1 ≤ Fs.length ∧ Rw a.2 p (lov L (m - (Fs.drop a.1).flatten.length) ((Fs.drop a.1).flatten.map nB)) γ ∧ Kp (fun c => c = γ) s1 a.2) (fun a => a.1) (Fs.length, s1) ⟨Nat.le_refl _, ?_, .refl⟩ (.cons rfl (.cons rfl (.cons ?_ (.cons rfl .nil)))) rfl rfl (by show Fs.length < _; omega) ?_
   ·show Rw s1 p (lov L (m - (Fs.drop Fs.length).flatten.length) ((Fs.drop Fs.length).flatten.map nB)) γ
    rw [List.drop_length, List.flatten_nil, List.map_nil, lov_nil]; exact rr1
   ·show some (Value.slice (some ⟨p, 0, none⟩) m (sure N)) = some (Value.slice (some ⟨p, 0, none⟩) (m - (Fs.drop Fs.length).flatten.length) (sure N))
    rw [List.drop_length, List.flatten_nil]; rfl
   rintro ⟨j, t0⟩ ⟨i1, i2, i3⟩
   simp only at i1 i2 i3
   dsimp only
   have wt : Wf t0 := i3.wf w1
   have Kt : Kp (fun c => s0.nx ≤ c) s0 t0 := K1.trans (i3.mono fun c h => by subst h; exact hγ)
   have hdl := flat_dlen (Fs := Fs) (i := j)
   have hLt : (lov L (m - (Fs.drop j).flatten.length) ((Fs.drop j).flatten.map nB)).length = N := by rw [lov_length (by rw [List.length_map]; omega), hL]
   have r1t := r1.kp w1 i3 (by omega)
   cases j with
   | zero =>
    rw [List.drop_zero] at i2 hLt ⊢
    have hneg : ¬ (0 : Int) ≤ Int.negSucc 0 := by decide
    refine run1 ?_
    have e : m - (m - Fs.flatten.length) = Fs.flatten.length := by omega
    rw [e]
    refine Wo.call rfl (Xc.call ok93 rfl) rfl ((whead_ok (base := 192) (.inr rfl) wt i2 hLt (by omega) (by omega) (by omega) (by omega)).mono ?_)
    rintro v s3 ⟨rfl, r3, k3⟩
    refine run1 ?_
    have e : m - Fs.flatten.length - (hd 192 Fs.flatten.length).length = m - F.length := by omega
    rw [e] at r3 ⊢
    refine Lv.ret rfl ⟨rfl, ?_, ((k1.w).trans i3).trans k3⟩
    rw [lov_at (by omega) (by omega), show hd 192 Fs.flatten.length ++ Fs.flatten = F from h5.symm] at r3
    exact r3
   | succ i =>
    have hi : i < Fs.length := i1
    have hpos : (0 : Nat) ≤ i := Nat.zero_le _
    obtain ⟨x, hx⟩ : ∃ x, css[i]? = some x := ⟨css[i]'(by omega), List.getElem?_eq_getElem _⟩
    obtain ⟨G, hG⟩ : ∃ G, Fs[i]? = some G := ⟨Fs[i]'hi, List.getElem?_eq_getElem _⟩
    have hFm := h4 i x G hx hG
    have fd := flat_drop hG
    have fdl : (Fs.drop i).flatten.length = G.length + (Fs.drop (i + 1)).flatten.length := by rw [fd, List.length_append]
    have fd2 := flat_dlen (Fs := Fs) (i := i)
    obtain ⟨gq, lx⟩ := kid (At.kpN h1 hw0 Kt) h3 hx
    have lt2 : ldq t0 (qadd (some ⟨s.nx, 0, none⟩) 2) = some (.slice q Fs.length c) := r1t.f1 rfl
    show W _ _ [(0, .slice (some ⟨p, 0, none⟩) m (sure N)), (3, .pointer (some ⟨s.nx, 0, none⟩)), (5, .slice (some ⟨p, 0, none⟩) (m - (Fs.drop (i + 1)).flatten.length) (sure N)), (6, nI i)] _ _ _
    refine run1 ?_
    refine Wo.call rfl (Xc.call ok60 rfl) rfl ((witem_ok hw0 hFm Kt i2 hγ hLt hN (by omega) (by omega)).mono ?_)
    rintro v t1 ⟨rfl, g1, g2⟩
    refine run1 ?_
    refine Wo.val rfl (Xv.subZ rfl rfl (by omega) (by omega) rfl) rfl ?_
    rw [show (Value.int .i64 ((i : Int) - ((1 : Nat) : Int))) = zI i from zI_eq]
    refine run1 ?_
    have e : m - (Fs.drop (i + 1)).flatten.length - G.length = m - (Fs.drop i).flatten.length := by omega
    rw [e] at g1 ⊢
    refine rnd.n (i, t1) ⟨by show i ≤ Fs.length; omega, ?_, i3.trans g2⟩ (by show i < i + 1; omega) (.cons rfl (.cons rfl (.cons rfl (.cons rfl .nil)))) rfl rfl
    rw [lov_at (by omega) (by omega), ← fd] at g1
    exact g1
theorem form_pos (h : Fm s d cs F) : 0 < F.length := by
 cases d with
 | zero => exact absurd h id
 | succ d =>
  rcases h with ⟨q, c, b, q', c', rfl, h1, h2, h3⟩ | ⟨q, c, q', c', css, Fs, rfl, h1, h2, hl60, h3, h4, h5⟩
  ·rw [h3, fS]
   split
   ·omega
   ·rw [List.length_append]; have := hd_pos (n := b.length) (base := 128); omega
  ·rw [h5, fL, List.length_append]; have := hd_pos (n := Fs.flatten.length) (base := 192); omega
theorem encode_ok (w0 : Wf s) (h : Fm s d cs F) (hd : d ≤ 80) (hF : F.length ≤ 1048576) :
  Cl B (.call 34 [.agg ⟨cs⟩]) s fun v s' => ∃ b, v = .tuple ⟨[.slice (some ⟨b, 0, none⟩) F.length (sure F.length), nI 0]⟩ ∧ s.nx ≤ b ∧ Rw s' b (F.map nB) b ∧ Kn s s' := by
 obtain ⟨x3, x1⟩ := h.len
 have hp := form_pos h
 refine Cl.enter Tryz.f34 fn34 rfl rfl rfl ?_
 refine run1 ?_
 refine mkO (cs := cs) fun s1 r1 n1 k1 => ?_
 have w1 : Wf s1 := k1.wf w0
 have l1 := r1.all (n := 3) x3 (by decide)
 refine run1 ?_
 refine Wo.call rfl (Xc.call ok57 rfl) rfl ((deeper_ok w1 (h.kn w0 k1) hd (by decide)).mono ?_)
 rintro v s2 ⟨rfl, k2⟩
 have w2 : Wf s2 := k2.wf w1
 have l2 := (r1.kp w1 k2 id).all (n := 3) x3 (by decide)
 refine run1 ?_
 refine Wo.call rfl (Xc.call ok58 rfl) rfl ((may_ok w2 (h.kn w0 (k1.call k2))).mono ?_)
 rintro v s3 ⟨rfl, k3⟩
 have w3 : Wf s3 := k3.wf w2
 have k13 : Kn s1 s3 := k2.call k3
 have l3 := (r1.kp w1 k13 id).all (n := 3) x3 (by decide)
 refine run1 ?_
 refine Wo.call rfl (Xc.call ok59 rfl) rfl ((size_ok w3 (h.kn w0 (k1.call k13)) hF).mono ?_)
 rintro v s4 ⟨rfl, k4⟩
 have w4 : Wf s4 := k4.wf w3
 have k14 : Kn s1 s4 := k13.call k4
 have hb : ¬ 1048576 < F.length := by omega
 refine run1 ?_
 refine Wo.val rfl (Xv.make rfl rfl rfl rfl rfl (Nat.le_refl _) rfl (by omega) (by omega)) rfl ?_
 refine mkO fun s5 r5 n5 k5 => ?_
 have r5' : Rw s5 s4.nx ((List.replicate F.length 0).map nB) s4.nx := by
  rw [← rep_flat]; exact r5
 have w5 : Wf s5 := k5.wf w4
 have k05 : Kn s s5 := k1.call (k14.call k5)
 have l5 := (r1.kp w1 (k14.call k5) id).all (n := 3) x3 (by decide)
 have h04 : s.nx ≤ s4.nx := Nat.le_trans k1.le k14.le
 refine run1 ?_
 refine Wo.call rfl (Xc.call ok60 rfl) rfl ((witem_ok (N := F.length) w0 h (k05.w) r5' h04 (by simp) (by omega) (Nat.le_refl _) (Nat.le_refl _)).mono ?_)
 rintro v s6 ⟨rfl, r6, k6⟩
 rw [Nat.sub_self, lov_all (by simp)] at r6
 refine run1 ?_
 exact Lv.ret rfl ⟨s4.nx, rfl, h04, r6, k05.app k6 h04⟩
theorem number_ok (w0 : Wf s) (hn : n < 2 ^ 62) :
  Cl B (.call 61 [.int .i64 (.ofNat n)]) s fun v s' => ∃ b, v = .tuple ⟨[.agg ⟨[.bool false, .slice (some ⟨b, 0, none⟩) (dgs n).length (sure (dgs n).length), .slice none 0 0]⟩, nI 0]⟩ ∧ s.nx ≤ b ∧ Rw s' b ((dgs n).map nB) b ∧ Kn s s' := by
 refine Cl.enter Tryz.f61 fn61 rfl rfl rfl ?_
 have h0 : ¬ n < 0 := Nat.not_lt_zero _
 refine run1 ?_
 refine mkO (cs := z3) fun s1 r1 n1 k1 => ?_
 have w1 : Wf s1 := k1.wf w0
 rw [show n.mod 18446744073709551616 = n from Nat.mod_eq_of_lt (by omega)]
 refine Wo.call rfl (Xc.call ok94 rfl) rfl ((digits_ok w1 hn).mono ?_)
 rintro v s2 ⟨b, rfl, hb, r2, k2⟩
 have w2 : Wf s2 := k2.wf w1
 refine run1 ?_
 refine Wo.st rfl rfl rfl rfl rfl rfl rfl (by intro v hv; simp at hv; rcases hv with rfl | rfl | rfl <;> rfl) (r1.kp w1 k2 id) (by decide) fun s3 r3 n3 k3 => ?_
 have r3' : Rw s3 s.nx [.bool false, .slice (some ⟨b, 0, none⟩) (dgs n).length (sure (dgs n).length), .slice none 0 0] s.nx := r3
 refine run1 ?_
 have hcl := cell_at (B := B) (t := 87) rfl rfl r3' rfl rfl
 refine Lv.ret (vs := [.agg ⟨[.bool false, .slice (some ⟨b, 0, none⟩) (dgs n).length (sure (dgs n).length), .slice none 0 0]⟩, nI 0]) ?_ ⟨b, rfl, by omega, r2.kp w2 k3 (by omega), (k1.call k2).app k3 (Nat.le_refl _)⟩
 show (match cell1 B.P (.pointer (some ⟨s.nx, 0, none⟩)) 87 s3, some [nI 0] with | some v, some vs => some (v :: vs) | _, _ => none) = _
 rw [hcl]
end Go.Proofs.YtcnhinnpieehoaaGreatDoor
namespace Go.Sy
open Go Go.Ev
section
variable {X : Fx} {env : Env} {s : St}
theorem Xv.mark0 {f : FuncId} {fn : Func} {ts : Array TypeId} (hf : X.P.funcs[f]? = some fn) (hb : fn.body = none) (ho : (fn.origin == "") = true) (hn : (fn.name == "internal/race.Disable" || fn.name == "internal/race.Enable") = true) : Xv X (.call ⟨.value (.func f), #[], ts⟩) env s (.tuple ⟨[]⟩) s := fun tm hft => by
 show callE X.P f [] s = _
 unfold callE
 simp only [hf, hb, ho, cond_true]
 unfold extV
 simp only [hn, cond_true]; rfl
theorem Xv.mark1 {f : FuncId} {fn : Func} {x : Operand} {ts : Array TypeId} {b o : Nat} (hf : X.P.funcs[f]? = some fn) (hb : fn.body = none) (ho : (fn.origin == "") = true) (hn : (fn.name == "internal/race.Acquire" || fn.name == "internal/race.ReleaseMerge") = true) (hx : ev env x = some (.pointer (some ⟨b, o, none⟩))) : Xv X (.call ⟨.value (.func f), #[x], ts⟩) env s (.tuple ⟨[]⟩) s := fun tm hft => by
 show callE X.P f (appO [] (appO (opds tm [x]) [])) s = _
 rw [evs_opds hft (xs := [x]) (vs := [.pointer (some ⟨b, o, none⟩)]) (by unfold evs evs; rw [hx]), appO_eq, appO_eq, List.append_nil, List.nil_append]
 unfold callE
 simp only [hf, hb, ho, cond_true]
 unfold extV
 simp only [hn, cond_true]; rfl
theorem Xv.raw {src dst t0 t1 n0 n1 e t2 n2 : Nat} {z0 z1 z2 : Option (List Value)} {k2 : Sh} {x : Operand} {b o : Nat} {v : Value} (hs : tk X.B.T src = some ⟨t0, n0, .pt e, z0⟩) (hd : tk X.B.T dst = some ⟨t1, n1, .un, z1⟩) (he : tk X.B.T e = some ⟨t2, n2, k2, z2⟩) (hn : Nat.blt 0 n2 = true) (hx : ev env x = some (.pointer (some ⟨b, o, none⟩))) (hr : readAt1 s b o = some v) : Xv X (.convert src dst x) env s (.pointer (some ⟨b, o, none⟩)) s := fun tm hf => by
 show xConv X.P src dst (opd tm x) s = _
 rw [ev_opd hf hx]
 unfold xConv
 simp only [show X.P.underlying src = some (.pointer e) from X.B.un hs, show X.P.underlying dst = some .unsafePointer from X.B.un hd, show sizeOfT X.P e = some n2 from X.B.sz he, hr]
 show cond (Nat.blt 0 n2) (toRaw b o (some v) s) .no = _
 rw [hn]; rfl
theorem Xv.cas {f : FuncId} {fn : Func} {x y z : Operand} {ts : Array TypeId} {b o γ : Nat} {l : List Value} {a c : Int} (hf : X.P.funcs[f]? = some fn) (hb : fn.body = none) (ho : (fn.origin == "") = true) (hn : (fn.name == "sync/atomic.CompareAndSwapInt32") = true) (hx : ev env x = some (.pointer (some ⟨b, o, none⟩))) (hy : ev env y = some (.int .i32 a)) (hz : ev env z = some (.int .i32 c)) (hr : Rw s b l γ) (hl : l[o]? = some (.int .i32 a)) :
  ∃ s', Xv X (.call ⟨.value (.func f), #[x, y, z], ts⟩) env s (.bool true) s' ∧ Rw s' b (lov l o [.int .i32 c]) γ ∧ s'.nx = s.nx ∧ Kp (fun c => c = γ) s s' := by
 have hol : o < l.length := (List.getElem?_eq_some_iff.1 hl).1
 have hr1 : readAt1 s b o = some (.int .i32 a) := by
  have h1 : At s (some ⟨b, 0, none⟩) l := by
   have := (hr.sl (o := 0) (n := l.length) (by omega)).at
   rwa [List.drop_zero, List.take_length] at this
  have := h1.ld hol
  rw [(List.getElem?_eq_some_iff.1 hl).2] at this
  have e : qadd (some ⟨b, 0, none⟩) o = some ⟨b, o, none⟩ := by show some (Addr.mk b (0 + o) none) = _; rw [Nat.zero_add]
  rw [e] at this
  exact this
 obtain ⟨g, hr2, rfl⟩ := hr
 obtain ⟨s', a1, a2, a3, a4⟩ := writeAt_ok hr2 (vs := [.int .i32 c]) (off := o) (by simp; omega) (oo1 rfl)
 refine ⟨s', fun tm hft => ?_, ⟨g, a2, rfl⟩, a3, a4⟩
 show callE X.P f (appO [] (appO (opds tm [x, y, z]) [])) s = _
 rw [evs_opds hft (xs := [x, y, z]) (vs := [.pointer (some ⟨b, o, none⟩), .int .i32 a, .int .i32 c]) (by unfold evs evs evs evs; rw [hx, hy, hz]), appO_eq, appO_eq, List.append_nil, List.nil_append]
 unfold callE
 simp only [hf, hb, ho, cond_true]
 unfold extV
 simp only [hn, cond_true]
 unfold casV
 rw [hr1]
 simp only [decide_true, cond_true, a1]
theorem Xv.addA {f : FuncId} {fn : Func} {x y : Operand} {ts : Array TypeId} {b o γ : Nat} {l : List Value} {a c d : Int} (hf : X.P.funcs[f]? = some fn) (hb : fn.body = none) (ho : (fn.origin == "") = true) (hn : (fn.name == "sync/atomic.AddInt32") = true) (hx : ev env x = some (.pointer (some ⟨b, o, none⟩))) (hy : ev env y = some (.int .i32 c)) (hr : Rw s b l γ) (hl : l[o]? = some (.int .i32 a)) (hd : IntKind.wrap .i32 (a + c) = d) :
  ∃ s', Xv X (.call ⟨.value (.func f), #[x, y], ts⟩) env s (.int .i32 d) s' ∧ Rw s' b (lov l o [.int .i32 d]) γ ∧ s'.nx = s.nx ∧ Kp (fun c => c = γ) s s' := by
 have hol : o < l.length := (List.getElem?_eq_some_iff.1 hl).1
 have hr1 : readAt1 s b o = some (.int .i32 a) := by
  have h1 : At s (some ⟨b, 0, none⟩) l := by
   have := (hr.sl (o := 0) (n := l.length) (by omega)).at
   rwa [List.drop_zero, List.take_length] at this
  have := h1.ld hol
  rw [(List.getElem?_eq_some_iff.1 hl).2] at this
  have e : qadd (some ⟨b, 0, none⟩) o = some ⟨b, o, none⟩ := by show some (Addr.mk b (0 + o) none) = _; rw [Nat.zero_add]
  rw [e] at this
  exact this
 obtain ⟨g, hr2, rfl⟩ := hr
 obtain ⟨s', a1, a2, a3, a4⟩ := writeAt_ok hr2 (vs := [.int .i32 d]) (off := o) (by simp; omega) (oo1 rfl)
 refine ⟨s', fun tm hft => ?_, ⟨g, a2, rfl⟩, a3, a4⟩
 show callE X.P f (appO [] (appO (opds tm [x, y]) [])) s = _
 rw [evs_opds hft (xs := [x, y]) (vs := [.pointer (some ⟨b, o, none⟩), .int .i32 c]) (by unfold evs evs evs; rw [hx, hy]), appO_eq, appO_eq, List.append_nil, List.nil_append]
 unfold callE
 simp only [hf, hb, ho, cond_true]
 unfold extV
 simp only [hn, cond_true]
 unfold addV
 rw [hr1]
 show addW s b o (some (.int .i32 (IntKind.wrap .i32 (a + c)))) = _
 rw [hd]
 show fI d (fun n => match writeAt s b o [.int .i32 n] with | some s => Re.ok (.val (.int .i32 n)) s | none => .no) = _
 rw [fI_eq, a1]
end
section
variable {X : Fx} {env : Env} {df : List Deferred} {s : St} {Q : Post} {all os : List Oper} {d : Option Nat} {ty : TypeId} {pos : String} {af : Array Edge} {gd : Option (Nat × Bool)}
theorem Wo.cas {f : FuncId} {fn : Func} {x y z : Operand} {ts : Array TypeId} {b o γ : Nat} {l : List Value} {a c : Int} (hg : wantsE all env gd = some true) (hdo : dOk X d = true) (hf : X.P.funcs[f]? = some fn) (hb : fn.body = none) (ho : (fn.origin == "") = true) (hn : (fn.name == "sync/atomic.CompareAndSwapInt32") = true) (hx : ev env x = some (.pointer (some ⟨b, o, none⟩))) (hy : ev env y = some (.int .i32 a)) (hz : ev env z = some (.int .i32 c)) (hr : Rw s b l γ) (hl : l[o]? = some (.int .i32 a))
  (K : ∀ s', Rw s' b (lov l o [.int .i32 c]) γ → s'.nx = s.nx → Kp (fun c => c = γ) s s' → Wo X all os (up d (.bool true) env) df s' Q) : Wo X all (⟨d, .call ⟨.value (.func f), #[x, y, z], ts⟩, ty, pos, af, gd⟩ :: os) env df s Q := by
 obtain ⟨s', k1, k2, k3, k4⟩ := Xv.cas (X := X) (ts := ts) hf hb ho hn hx hy hz hr hl
 exact Wo.val hg k1 hdo (K s' k2 k3 k4)
theorem Wo.addA {f : FuncId} {fn : Func} {x y : Operand} {ts : Array TypeId} {b o γ : Nat} {l : List Value} {a c e : Int} (hg : wantsE all env gd = some true) (hdo : dOk X d = true) (hf : X.P.funcs[f]? = some fn) (hb : fn.body = none) (ho : (fn.origin == "") = true) (hn : (fn.name == "sync/atomic.AddInt32") = true) (hx : ev env x = some (.pointer (some ⟨b, o, none⟩))) (hy : ev env y = some (.int .i32 c)) (hr : Rw s b l γ) (hl : l[o]? = some (.int .i32 a)) (hd : IntKind.wrap .i32 (a + c) = e)
  (K : ∀ s', Rw s' b (lov l o [.int .i32 e]) γ → s'.nx = s.nx → Kp (fun c => c = γ) s s' → Wo X all os (up d (.int .i32 e) env) df s' Q) : Wo X all (⟨d, .call ⟨.value (.func f), #[x, y], ts⟩, ty, pos, af, gd⟩ :: os) env df s Q := by
 obtain ⟨s', k1, k2, k3, k4⟩ := Xv.addA (X := X) (ts := ts) hf hb ho hn hx hy hr hl hd
 exact Wo.val hg k1 hdo (K s' k2 k3 k4)
end
end Go.Sy
namespace Go.Proofs.YtcnhinnpieehoaaGreatDoor
open Go Go.Ev Go.Sy
set_option maxRecDepth 100000
variable {s : St} {b o γ : Nat} {l : List Value}
theorem fx {f : FuncId} {fn : Func} (h : Tryz.prog.funcs[f]? = some fn) : B.P.funcs[f]? = some fn := h
theorem ilock_ok (_w0 : Wf s) (hr : Rw s b l γ) (hl : l[o]? = some (.int .i32 0)) : Cl B (.call 50 [.pointer (some ⟨b, o, none⟩)]) s fun _ s' => Rw s' b (lov l o [.int .i32 1]) γ ∧ s'.nx = s.nx ∧ Kp (fun c => c = γ) s s' := by
 have hgd : good (some ⟨b, o, none⟩) := ⟨_, _, rfl⟩
 refine Cl.enter Tryz.f50 fn50 rfl rfl rfl ?_
 refine run1 ?_
 refine Wo.val rfl (Xv.mark0 (fx (f := 72) (fn := Tryz.f72) (by kernel_rfl)) rfl rfl rfl) rfl (run1 ?_)
 refine Wo.val rfl (Xv.nilC rfl) rfl (run1 ?_)
 refine Wo.cas rfl rfl (fx (f := 73) (fn := Tryz.f73) (by kernel_rfl)) rfl rfl rfl rfl rfl rfl hr hl ?_
 intro s1 k1 k2 k3
 have k1' : Rw s1 b (lov l o [.int .i32 1]) γ := k1
 have hlen : o < l.length := (List.getElem?_eq_some_iff.1 hl).1
 have hrd : readAt1 s1 b o = some (.int .i32 1) := by
  have := (Rw.ats k1').ld (i := o) (by rw [lov_length (by simp; omega)]; exact hlen)
  rw [show (lov l o [Value.int .i32 1])[o]'(by rw [lov_length (by simp; omega)]; exact hlen) = .int .i32 1 by
   simp only [lov]; rw [List.getElem_append_right (by rw [List.length_take]; omega)]; simp [List.length_take, Nat.min_eq_left (Nat.le_of_lt hlen)]] at this
  have e : qadd (some ⟨b, 0, none⟩) o = some ⟨b, o, none⟩ := by show some (Addr.mk b (0 + o) none) = _; rw [Nat.zero_add]
  rw [e] at this
  exact this
 refine run1 ?_
 refine Wo.val rfl (Xv.mark0 (fx (f := 74) (fn := Tryz.f74) (by kernel_rfl)) rfl rfl rfl) rfl (run1 ?_)
 refine Wo.val rfl (Xv.raw rfl rfl rfl rfl rfl hrd) rfl (run1 ?_)
 refine Wo.val rfl (Xv.mark1 (fx (f := 75) (fn := Tryz.f75) (by kernel_rfl)) rfl rfl rfl rfl) rfl (run1 ?_)
 exact Lv.ret rfl ⟨k1', k2, k3⟩
theorem lock_ok (w0 : Wf s) (hr : Rw s b l γ) (hl : l[o]? = some (.int .i32 0)) : Cl B (.call 24 [.pointer (some ⟨b, o, none⟩)]) s fun _ s' => Rw s' b (lov l o [.int .i32 1]) γ ∧ s'.nx = s.nx ∧ Kp (fun c => c = γ) s s' := by
 have hgd : good (some ⟨b, o, none⟩) := ⟨_, _, rfl⟩
 refine Cl.enter Tryz.f24 fn24 rfl rfl rfl ?_
 refine run1 ?_
 refine Wo.val rfl (Xv.nilC rfl) rfl (run1 ?_)
 refine Wo.call rfl (Xc.call ok50 rfl) rfl ((ilock_ok w0 hr hl).mono ?_)
 rintro v s' k
 refine run1 ?_
 exact Lv.nrm rfl k
theorem Rw.rd1 {v : Value} (hr : Rw s b l γ) (hl : l[o]? = some v) : readAt1 s b o = some v := by
 have hol : o < l.length := (List.getElem?_eq_some_iff.1 hl).1
 have := (Rw.ats hr).ld hol
 rw [(List.getElem?_eq_some_iff.1 hl).2] at this
 have e : qadd (some ⟨b, 0, none⟩) o = some ⟨b, o, none⟩ := by show some (Addr.mk b (0 + o) none) = _; rw [Nat.zero_add]
 rw [e] at this
 exact this
theorem iunlock_ok (hr : Rw s b l γ) (hl : l[o]? = some (.int .i32 1)) : Cl B (.call 51 [.pointer (some ⟨b, o, none⟩)]) s fun _ s' => Rw s' b (lov l o [.int .i32 0]) γ ∧ s'.nx = s.nx ∧ Kp (fun c => c = γ) s s' := by
 have hgd : good (some ⟨b, o, none⟩) := ⟨_, _, rfl⟩
 have hrd := Rw.rd1 hr hl
 have hld : ldq s (qadd (some ⟨b, o, none⟩) 0) = some (.int .i32 1) := hrd
 refine Cl.enter Tryz.f51 fn51 rfl rfl rfl ?_
 refine run1 ?_
 refine Wo.val rfl (Xv.nilC rfl) rfl (run1 ?_)
 refine Wo.val rfl (Xv.raw rfl rfl rfl rfl rfl hrd) rfl (run1 ?_)
 refine Wo.val rfl (Xv.mark1 (fx (f := 77) (fn := Tryz.f77) (by kernel_rfl)) rfl rfl rfl rfl) rfl (run1 ?_)
 refine Wo.val rfl (Xv.mark0 (fx (f := 72) (fn := Tryz.f72) (by kernel_rfl)) rfl rfl rfl) rfl (run1 ?_)
 refine Wo.val rfl (Xv.nilC rfl) rfl (run1 ?_)
 refine Wo.addA (e := 0) rfl rfl (fx (f := 78) (fn := Tryz.f78) (by kernel_rfl)) rfl rfl rfl rfl rfl hr hl rfl ?_
 intro s1 k1 k2 k3
 refine run1 ?_
 refine Wo.val rfl (Xv.mark0 (fx (f := 74) (fn := Tryz.f74) (by kernel_rfl)) rfl rfl rfl) rfl (run1 ?_)
 exact Lv.nrm rfl ⟨k1, k2, k3⟩
theorem unlock_ok (hr : Rw s b l γ) (hl : l[o]? = some (.int .i32 1)) : Cl B (.call 25 [.pointer (some ⟨b, o, none⟩)]) s fun _ s' => Rw s' b (lov l o [.int .i32 0]) γ ∧ s'.nx = s.nx ∧ Kp (fun c => c = γ) s s' := by
 have hgd : good (some ⟨b, o, none⟩) := ⟨_, _, rfl⟩
 refine Cl.enter Tryz.f25 fn25 rfl rfl rfl ?_
 refine run1 ?_
 refine Wo.val rfl (Xv.nilC rfl) rfl (run1 ?_)
 refine Wo.call rfl (Xc.call ok51 rfl) rfl ((iunlock_ok hr hl).mono ?_)
 rintro v s' k
 refine run1 ?_
 exact Lv.nrm rfl k
end Go.Proofs.YtcnhinnpieehoaaGreatDoor
