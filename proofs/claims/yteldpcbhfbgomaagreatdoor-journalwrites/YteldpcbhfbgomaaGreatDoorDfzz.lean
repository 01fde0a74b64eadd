import Derived.Test.YteldpcbhfbgomaaGreatDoorKjzz
import Derived.Test.YteldpcbhfbgomaaGreatDoorDezz
namespace Go.Proofs.YteldpcbhfbgomaaGreatDoor
open Go Go.Ev Go.Sy
set_option maxRecDepth 100000
variable {s s0 : St} {p γ δ n c m N d : Nat} {q : Option Addr} {A D F : List Nat} {L cs : List Value}
theorem alone0_ok : Cl B (.call 59 [.slice q 0 c]) s fun v s' => v = .bool false ∧ s' = s := by
 refine Cl.enter Tryz.f59 fn59 rfl rfl rfl ?_
 have h : ¬ 0 = 1 := by decide
 refine run1 ?_
 exact Lv.ret rfl ⟨rfl, rfl⟩
theorem may_ok : ∀ {d : Nat} {s : St} {cs : List Value} {F : List Nat}, Wf s → Fm s d cs F → Cl B (.call 46 [.agg ⟨cs⟩]) s fun v s' => v = .bool true ∧ Kn s s'
 | 0, _, _, _, _, h => absurd h id
 | d + 1, s, cs, F, w0, h => by
  refine Cl.enter Tryz.f46 fn46 rfl rfl rfl ?_
  refine run1 ?_
  refine mk_gen (cs := cs) (M := fun s' => Wo _ _ _ _ _ s' _) fun s1 r1 n1 k1 => ?_
  have w1 : Wf s1 := k1.wf w0
  have gd : good (some ⟨s.nx, 0, none⟩) := good_b
  have h00 : 0 = 0 := rfl
  have h01 : ¬ 0 < 0 := by decide
  rcases h with ⟨q, c, b, q', c', rfl, h1, h2, h3⟩ | ⟨q, c, q', c', css, Fs, rfl, h1, h2, hl60, h3, h4, h5⟩
  ·have l0 : ldq s1 (qadd (some ⟨s.nx, 0, none⟩) 0) = some (.bool false) := r1.f1 rfl
   have l2 : ldq s1 (qadd (some ⟨s.nx, 0, none⟩) 2) = some (.slice q' 0 c') := r1.f1 rfl
   refine run1 ?_
   exact Lv.ret rfl ⟨rfl, k1⟩
  ·have l0 : ldq s1 (qadd (some ⟨s.nx, 0, none⟩) 0) = some (.bool true) := r1.f1 rfl
   have l1 : ldq s1 (qadd (some ⟨s.nx, 0, none⟩) 1) = some (.slice q' 0 c') := r1.f1 rfl
   have l2 : ldq s1 (qadd (some ⟨s.nx, 0, none⟩) 2) = some (.slice q Fs.length c) := r1.f1 rfl
   refine run1 ?_
   refine W.loop (α := Nat × St) (fun a => [(17, .slice q Fs.length c), (18, nI Fs.length), (19, nI a.1)]) (fun _ => []) (fun a => a.2)
    (fun a => a.1 ≤ Fs.length ∧ Kn s1 a.2) (fun a => Fs.length - a.1) (0, s1) ⟨Nat.zero_le _, .refl⟩ (.cons rfl (.cons rfl (.cons rfl .nil))) rfl rfl (by show Fs.length - 0 < _; omega) ?_
   rintro ⟨i, t0⟩ ⟨i1, i2⟩
   simp only at i1 i2
   dsimp only
   have wt : Wf t0 := i2.wf w1
   by_cases hi : i < Fs.length
   ·have kt : Kn s t0 := k1.call i2
    obtain ⟨x, hx⟩ : ∃ x, css[i]? = some x := ⟨css[i]'(by omega), List.getElem?_eq_getElem _⟩
    obtain ⟨G, hG⟩ : ∃ G, Fs[i]? = some G := ⟨Fs[i]'hi, List.getElem?_eq_getElem _⟩
    have hF := h4 i x G hx hG
    obtain ⟨gq, lx⟩ := kid (h1.kn w0 kt) h3 hx
    obtain ⟨x3, x1⟩ := hF.len
    refine run1 ?_
    refine mk_gen (cs := z3) (M := fun s' => Wo _ _ _ _ _ s' _) fun t1 r2 n2 g1 => ?_
    have wt1 : Wf t1 := g1.wf wt
    refine Wo.st rfl rfl rfl rfl rfl rfl x3 x1 r2 (by decide) fun t2 r3 n3 g2 => ?_
    rw [lov_all (by rw [x3]; rfl)] at r3
    have k2 : Kn t0 t2 := g1.app g2 (Nat.le_refl _)
    have wt2 : Wf t2 := k2.wf wt
    have lt2 := r3.all (n := 3) x3 (by decide)
    refine run1 ?_
    refine Wo.call rfl (Xc.call ok46 rfl) rfl ((may_ok wt2 (hF.kn w0 (kt.call k2))).mono ?_)
    rintro v t3 ⟨rfl, g3⟩
    refine run1 ?_
    exact rnd.n (i + 1, t3) ⟨hi, i2.call (k2.call g3)⟩ (by show Fs.length - (i + 1) < Fs.length - i; omega) (.cons rfl (.cons rfl (.cons rfl .nil))) rfl rfl
   ·refine run1 ?_
    exact Lv.ret rfl ⟨rfl, k1.call i2⟩
theorem flat_take {Fs : List (List Nat)} {i : Nat} {G : List Nat} (h : Fs[i]? = some G) : (Fs.take (i + 1)).flatten.length = (Fs.take i).flatten.length + G.length ∧ (Fs.take (i + 1)).flatten.length ≤ Fs.flatten.length := by
 obtain ⟨h1, h2⟩ := List.getElem?_eq_some_iff.1 h
 have e : (Fs.take (i + 1)).flatten = (Fs.take i).flatten ++ G := by rw [List.take_succ_eq_append_getElem h1, List.flatten_append, h2]; simp
 refine ⟨by rw [e, List.length_append], ?_⟩
 have := List.take_append_drop (i + 1) Fs
 rw [← this, List.flatten_append, List.length_append]
 rw [List.take_append_of_le_length (by rw [List.length_take]; omega), List.take_of_length_le (by rw [List.length_take]; omega)]
 omega
theorem size_ok : ∀ {d : Nat} {s : St} {cs : List Value} {F : List Nat}, Wf s → Fm s d cs F → F.length ≤ 1048576 → Cl B (.call 47 [.agg ⟨cs⟩]) s fun v s' => v = nI F.length ∧ Kn s s'
 | 0, _, _, _, _, h, _ => absurd h id
 | d + 1, s, cs, F, w0, h, hsz => by
  refine Cl.enter Tryz.f47 fn47 rfl rfl rfl ?_
  refine run1 ?_
  refine mk_gen (cs := cs) (M := fun s' => Wo _ _ _ _ _ s' _) fun s1 r1 n1 k1 => ?_
  have w1 : Wf s1 := k1.wf w0
  have gd : good (some ⟨s.nx, 0, none⟩) := good_b
  rcases h with ⟨q, c, b, q', c', rfl, h1, h2, h3⟩ | ⟨q, c, q', c', css, Fs, rfl, h1, h2, hl60, h3, h4, h5⟩
  ·have l1 : ldq s1 (qadd (some ⟨s.nx, 0, none⟩) 1) = some (.slice q b.length c) := r1.f1 rfl
   have l2 : ldq s1 (qadd (some ⟨s.nx, 0, none⟩) 2) = some (.slice q' 0 c') := r1.f1 rfl
   refine run1 ?_
   refine Wo.call rfl (Xc.call ok59 rfl) rfl ((alone_ok (h1.kn w0 k1) (by omega)).mono ?_)
   rintro v s' ⟨rfl, e'⟩; rw [e']; clear e' s'
   by_cases ha : b.length = 1 ∧ b.getD 0 0 < 128
   ·refine run1 ?_
    refine Lv.ret rfl ⟨?_, k1⟩
    rw [h3, fS, if_pos ha, ha.1]; rfl
   ·rw [fS, if_neg ha] at h3
    have hF : F.length = (hd 128 b.length).length + b.length := by rw [h3, List.length_append]
    have hp := hd_pos (n := b.length) (base := 128)
    refine run1 ?_
    refine W.loop (α := Unit) (fun _ => [(3, nI b.length), (14, nI 0), (15, nI 0)]) (fun _ => []) (fun _ => s1)
     (fun _ => True) (fun _ => 0) () trivial (.cons rfl (.cons rfl (.cons rfl .nil))) rfl rfl (by decide) ?_
    rintro ⟨⟩ _
    have h01 : ¬ 0 < 0 := by decide
    have hb : ¬ 1048576 < b.length := by omega
    refine run1 ?_
    refine Wo.call rfl (Xc.call ok60 rfl) rfl ((hsize_ok (base := 128) h2).mono ?_)
    rintro v s' ⟨rfl, e'⟩; rw [e']; clear e' s'
    obtain ⟨hh, ehh⟩ : ∃ hh, hh = (hd 128 b.length).length := ⟨_, rfl⟩
    rw [← ehh]
    refine run1 ?_
    refine Lv.ret rfl ⟨?_, k1⟩
    show nI (hh + b.length) = _
    rw [hF, ehh]
  ·have l1 : ldq s1 (qadd (some ⟨s.nx, 0, none⟩) 1) = some (.slice q' 0 c') := r1.f1 rfl
   have l2 : ldq s1 (qadd (some ⟨s.nx, 0, none⟩) 2) = some (.slice q Fs.length c) := r1.f1 rfl
   have hF : F.length = (hd 192 Fs.flatten.length).length + Fs.flatten.length := by rw [h5, fL, List.length_append]
   have hp := hd_pos (n := Fs.flatten.length) (base := 192)
   refine run1 ?_
   refine Wo.call rfl (Xc.call ok59 rfl) rfl (alone0_ok.mono ?_)
   rintro v s' ⟨rfl, e'⟩; rw [e']; clear e' s'
   refine run1 ?_
   refine W.loop (α := Nat × St) (fun a => [(3, nI (Fs.take a.1).flatten.length), (13, .slice q Fs.length c), (14, nI Fs.length), (15, nI a.1)]) (fun _ => []) (fun a => a.2)
    (fun a => a.1 ≤ Fs.length ∧ Kn s1 a.2) (fun a => Fs.length - a.1) (0, s1) ⟨Nat.zero_le _, .refl⟩ (.cons rfl (.cons rfl (.cons rfl (.cons rfl .nil)))) rfl rfl (by show Fs.length - 0 < _; omega) ?_
   rintro ⟨i, t0⟩ ⟨i1, i2⟩
   simp only at i1 i2
   dsimp only
   have wt : Wf t0 := i2.wf w1
   by_cases hi : i < Fs.length
   ·have kt : Kn s t0 := k1.call i2
    obtain ⟨x, hx⟩ : ∃ x, css[i]? = some x := ⟨css[i]'(by omega), List.getElem?_eq_getElem _⟩
    obtain ⟨G, hG⟩ : ∃ G, Fs[i]? = some G := ⟨Fs[i]'hi, List.getElem?_eq_getElem _⟩
    have hFm := h4 i x G hx hG
    obtain ⟨f1, f2⟩ := flat_take hG
    obtain ⟨gq, lx⟩ := kid (h1.kn w0 kt) h3 hx
    obtain ⟨x3, x1⟩ := hFm.len
    refine run1 ?_
    refine mk_gen (cs := z3) (M := fun s' => Wo _ _ _ _ _ s' _) fun t1 r2 n2 g1 => ?_
    have wt1 : Wf t1 := g1.wf wt
    refine Wo.st rfl rfl rfl rfl rfl rfl x3 x1 r2 (by decide) fun t2 r3 n3 g2 => ?_
    rw [lov_all (by rw [x3]; rfl)] at r3
    have k2 : Kn t0 t2 := g1.app g2 (Nat.le_refl _)
    have wt2 : Wf t2 := k2.wf wt
    have lt2 := r3.all (n := 3) x3 (by decide)
    refine run1 ?_
    refine Wo.call rfl (Xc.call ok47 rfl) rfl ((size_ok wt2 (hFm.kn w0 (kt.call k2)) (by omega)).mono ?_)
    rintro v t3 ⟨rfl, g3⟩
    have hb : ¬ 1048576 < (Fs.take i).flatten.length + G.length := by omega
    refine run1 ?_
    refine rnd.n (i + 1, t3) ⟨hi, i2.call (k2.call g3)⟩ (by show Fs.length - (i + 1) < Fs.length - i; omega) (.cons ?_ (.cons rfl (.cons rfl (.cons rfl .nil)))) rfl rfl
    show some (nI ((Fs.take i).flatten.length + G.length)) = some (nI (Fs.take (i + 1)).flatten.length)
    rw [f1]
   ·have e : i = Fs.length := by omega
    subst e
    rw [List.take_length]
    have hb : ¬ 1048576 < Fs.flatten.length := by omega
    refine run1 ?_
    refine Wo.call rfl (Xc.call ok60 rfl) rfl ((hsize_ok (base := 192) (by omega)).mono ?_)
    rintro v s' ⟨rfl, e'⟩; rw [e']; clear e' s'
    obtain ⟨hh, ehh⟩ : ∃ hh, hh = (hd 192 Fs.flatten.length).length := ⟨_, rfl⟩
    rw [← ehh]
    refine run1 ?_
    refine Lv.ret rfl ⟨?_, k1.call i2⟩
    show nI (hh + Fs.flatten.length) = _
    rw [hF, ehh]
end Go.Proofs.YteldpcbhfbgomaaGreatDoor
namespace Go.Sy
open Go Go.Ev
theorem sl_end {X : Fx} {env : Env} {s : St} {t t0 n0 e t1 size : Nat} {z0 z : Option (List Value)} {ke : Sh} {x y : Operand} (ht : tk X.B.T t = some ⟨t0, n0, .sl e, z0⟩) (he : tk X.B.T e = some ⟨t1, size, ke, z⟩) (hx : ev env x = some (.slice none 0 0)) (hy : ev env y = some (nI 0)) : Xv X (.slice t x (some y) none none) env s (.slice none 0 0) s := (Xv.slN ht he hx hy).2
end Go.Sy
namespace Go.Proofs.YteldpcbhfbgomaaGreatDoor
open Go Go.Ev Go.Sy
set_option maxRecDepth 100000
variable {s : St} {p γ δ n c : Nat} {q : Option Addr} {S M A D O R : List Nat} {nb cb r1 n1 r2 n2 r3 n3 : Nat}
theorem insert0_ok {v : Value} {ql : Option Addr} {cl : Nat} (w0 : Wf s) (hl : At s ql [v]) (hv : one v = true) :
  Cl B (.call 67 [.slice none 0 0, nI 0, .slice ql 1 cl]) s fun u s' => ∃ q' c' γ', u = .slice q' 1 c' ∧ Gw s' q' 1 c' 1 [v] γ' ∧ s.nx ≤ γ' ∧ Kn s s' := by
 refine Cl.enter Tryz.f67 fn67 rfl rfl rfl ?_
 refine run1 ?_
 refine Wo.val rfl (sl_end rfl rfl rfl rfl) rfl (run1 ?_)
 refine Wo.app rfl rfl rfl rfl rfl rfl rfl rfl rfl w0 (Gw.nil (γ := s.nx)) rfl (cells_at (k := 1) (size := 1) hl rfl (by decide)) rfl (by intro u hu; rw [List.mem_singleton.1 hu]; exact hv) rfl (by decide) (by decide) ?_
 intro q' c' γ' s' h1 h2 h3
 refine run1 ?_
 refine Lv.ret rfl ⟨q', c', γ', rfl, h1, ?_, Kn.app .refl h2 (Nat.le_refl _)⟩
 rcases h3 with h | ⟨h, _⟩ <;> omega
theorem At.one {b o : Nat} {l : List Value} {v : Value} (h : Rw s b l γ) (hv : l[o]? = some v) {i : Nat} (ho : o = i) : ldq s (some ⟨b, i, none⟩) = some v := by
 subst ho
 have := h.f1 hv
 have e : qadd (some ⟨b, 0, none⟩) o = some ⟨b, o, none⟩ := by show some (Addr.mk b (0 + o) none) = _; rw [Nat.zero_add]
 rw [e] at this; exact this
theorem add_new {b o k : Nat} {l : List Value} {r : Nat} {M : MpE} {H : List Nat} (w0 : Wf s) (hb : Rw s b l γ) (hm : l[o]? = some (.map (some r))) (hn : l[o + 1]? = some (nI k)) (hM : Mp s r M) (hr : r ≠ γ) (hH : H.length = 32) (hno : mget H M = none) (hq : At s q (A.map nB)) (hA : A.length < 2 ^ 40) (hk : k < 2 ^ 60) :
  Cl B (.call 51 [.pointer (some ⟨b, o, none⟩), hsh H, .slice q A.length c]) s fun _ s' => ∃ ql cl qa ca γl γa, Mp s' r (mput H (.slice ql 1 cl) M) ∧ Rw s' b (l.set (o + 1) (nI (k + 1))) γ ∧ Sl s' ql [.slice qa A.length ca] γl ∧ s.nx ≤ γl ∧ Sl s' qa (A.map nB) γa ∧ s.nx ≤ γa ∧ Kp (fun c => c = γ ∨ c = r) s s' := by
 refine Cl.enter Tryz.f51 fn51 rfl rfl rfl ?_
 have gd : good (some ⟨b, o, none⟩) := good_b
 refine run1 ?_
 refine mk_gen (cs := H.map nB) (M := fun s' => Wo _ _ _ _ _ s' _) fun s1 r1 n1 k1 => ?_
 have w1 : Wf s1 := k1.wf w0
 have b1 := hb.kp w0 k1 id
 have hM1 := hM.kp w0 k1 id
 have q1 := hq.kn w0 k1
 have lh1 := r1.all (n := 32) (by rw [List.length_map, hH]) (by decide)
 refine run1 ?_
 refine Wo.call rfl (Xc.call ok66 rfl) rfl ((place_ok (ql := none) (m := 0) (cl := 0) (i := 0) (f := false) w1 b1 hm hM1 hH (by rw [hno]; rfl) (fun s' _ => bs0_ok)).mono ?_)
 rintro v s2 ⟨rfl, k2⟩
 have w2 : Wf s2 := k2.wf w1
 have k12 : Kn s1 s2 := k2
 refine run1 ?_
 refine W.dr [(12, .none, 0), (13, .acts, 4096), (5, .none, 0), (6, .none, 32), (7, .none, 96), (8, .reads, 224), (9, .reads, 0), (10, .reads, 992), (11, .none, 0), (14, .makes, 12288), (15, .acts, 32736), (0, .none, 0), (1, .none, 1), (2, .none, 3), (3, .reads, 7), (4, .reads, 0), (16, .acts, 65535)] (by kernel_rfl) rfl (run1 ?_)
 refine Wd.call rfl (Xc.call ok68 rfl) rfl ((clone_ok w2 (q1.kn w1 k2) (by omega)).mono ?_)
 rintro v s3 ⟨qa, ca, γa, rfl, ga, k3, la⟩
 refine ⟨k3.le, ?_⟩
 have w3 : Wf s3 := k3.wf w2
 have k13 : Kn s1 s3 := k2.call k3
 have lm2 : ldq s2 (qadd (some ⟨b, o, none⟩) 0) = some (.map (some r)) := At.one (b1.kp w1 k2 id) hm (by omega)
 have lm3 : ldq s3 (qadd (some ⟨b, o, none⟩) 0) = some (.map (some r)) := At.one (b1.kp w1 k13 id) hm (by omega)
 have lh2 := (r1.kp w1 k2 id).all (n := 32) (by rw [List.length_map, hH]) (by decide)
 have lh3 := (r1.kp w1 k13 id).all (n := 32) (by rw [List.length_map, hH]) (by decide)
 have hM2 := hM1.kp w1 k2 id
 have hM3 := hM1.kp w1 k13 id
 refine run1 ?_
 refine Wd.val rfl (Xv.nilC rfl) rfl (Nat.le_refl _) (run1 ?_)
 refine Wd.read rfl (Xv.ld rfl rfl rfl lm3) rfl eqV_mp ⟨Xv.ld rfl rfl rfl lm3, ⟨Xv.ld rfl rfl rfl lm2, trivial⟩⟩ ?_
 refine Wd.read rfl (Xv.ldN rfl rfl rfl lh3) rfl eqV_h ⟨Xv.ldN rfl rfl rfl lh3, ⟨Xv.ldN rfl rfl rfl lh2, trivial⟩⟩ ?_
 have lk : ∀ {X : Fx} {env : Env} {x y : Operand} {t : St}, Mp t r M → X.B = B → ev env x = some (.map (some r)) → ev env y = some (hsh H) → Xv X (.lookup 83 x y false) env t (.slice none 0 0) t := fun {X env x y t} hM hB hx hy => by
  have := Xv.look (X := X) (ok := false) (t := 83) (key := 23) (elt := 45) (e := 5) (z := .slice none 0 0) (by rw [hB]; rfl) (by show HT X.B.P _ _; rw [hB]; exact HH) (by show zeroOf X.B.P _ = _; rw [hB]; exact zsl) rfl hx hy hH hM
  rw [hno] at this; exact this
 refine Wd.read rfl (lk hM3 rfl rfl rfl) rfl eqV_slice ⟨lk hM3 rfl rfl rfl, ⟨lk hM2 rfl rfl rfl, trivial⟩⟩ (run1 ?_)
 refine mk_gen (M := fun s' => Wd _ _ _ _ _ _ s' _) fun s4 q4 n4 k4 => ?_
 have w4 : Wf s4 := k4.wf w3
 refine Wd.call rfl (Xc.call ok67 rfl) rfl ((insert0_ok w4 q4.ats rfl).mono ?_)
 rintro v s5 ⟨ql, cl, γl, rfl, gl, ll, k5⟩
 refine ⟨k5.le, ?_⟩
 have w5 : Wf s5 := k5.wf w4
 have k35 : Kn s3 s5 := k4.call k5
 have k15 : Kn s1 s5 := k13.call k35
 have lm5 : ldq s5 (qadd (some ⟨b, o, none⟩) 0) = some (.map (some r)) := At.one (b1.kp w1 k15 id) hm (by omega)
 have lh5 := (r1.kp w1 k15 id).all (n := 32) (by rw [List.length_map, hH]) (by decide)
 refine run1 ?_
 refine Wd.val rfl (Xv.nilC rfl) rfl (Nat.le_refl _) (run1 ?_)
 refine Wd.read rfl (Xv.ld rfl rfl rfl lm5) rfl eqV_mp ⟨Xv.ld rfl rfl rfl lm5, ⟨Xv.ld rfl rfl rfl lm3, ⟨Xv.ld rfl rfl rfl lm2, trivial⟩⟩⟩ ?_
 refine Wd.read rfl (Xv.ldN rfl rfl rfl lh5) rfl eqV_h ⟨Xv.ldN rfl rfl rfl lh5, ⟨Xv.ldN rfl rfl rfl lh3, ⟨Xv.ldN rfl rfl rfl lh2, trivial⟩⟩⟩ ?_
 refine Wd.put (h := H) rfl rfl rfl HH rfl rfl rfl hH (hM1.kp w1 k15 id) fun s6 m6 n6 k6 => ?_
 have w6 : Wf s6 := k6.wf w5
 have b6 : Rw s6 b l γ := (b1.kp w1 k15 id).kp w5 k6 (Ne.symm hr)
 have ln6 : ldq s6 (qadd (some ⟨b, o, none⟩) 1) = some (nI k) := At.one b6 hn rfl
 have ho : o + 1 < l.length := (List.getElem?_eq_some_iff.1 hn).1
 refine run1 ?_
 refine Wo.val rfl (Xv.nilC rfl) rfl (run1 ?_)
 refine Wo.val rfl (Xv.nilC rfl) rfl (run1 ?_)
 refine Wo.st rfl rfl rfl rfl rfl rfl rfl (by intro v hv; rw [List.mem_singleton.1 hv]; rfl) b6 (by show o + 1 + 1 ≤ _; omega) fun s7 r7 n7 k7 => ?_
 rw [lov_one ho] at r7
 refine run1 ?_
 have g3 : s.nx ≤ γa := Nat.le_trans k1.le (Nat.le_trans k2.le la)
 have hrs := hM1.lt w1
 have hgs := b1.lt w1
 have hrs0 := hM.lt w0
 have hgs0 := hb.lt w0
 have ga6 : Sl s6 qa (A.map nB) γa := ((ga.sl.kp w3 k35 id).kp w5 k6 (by omega))
 have gl6 : Sl s6 ql [.slice qa A.length ca] γl := gl.sl.kp w5 k6 (by have := k4.le; have := k3.le; have := k2.le; have := k1.le; omega)
 refine Lv.nrm rfl ⟨ql, cl, qa, ca, γl, γa, m6.kp w6 k7 hr, r7, gl6.kp w6 k7 (by have := k4.le; have := k3.le; have := k2.le; have := k1.le; omega), (by have := k4.le; have := k3.le; have := k2.le; have := k1.le; omega), ga6.kp w6 k7 (by omega), g3, ?_⟩
 have k05 : Kn s s5 := k1.call k15
 exact ((k05.mono fun _ h => absurd h id).trans (k6.mono fun c h => .inr h)).trans (k7.mono fun c h => .inl h)
theorem add_old {b o : Nat} {l : List Value} {r : Nat} {M : MpE} {H : List Nat} {ql qa : Option Addr} {cl ca : Nat} (w0 : Wf s) (hb : Rw s b l γ) (hm : l[o]? = some (.map (some r))) (hM : Mp s r M) (hH : H.length = 32) (hV : mget H M = some (.slice ql 1 cl)) (hl : At s ql [.slice qa A.length ca]) (ha : At s qa (A.map nB)) (hq : At s q (A.map nB)) :
  Cl B (.call 51 [.pointer (some ⟨b, o, none⟩), hsh H, .slice q A.length c]) s fun _ s' => Kn s s' := by
 refine Cl.enter Tryz.f51 fn51 rfl rfl rfl ?_
 have gd : good (some ⟨b, o, none⟩) := good_b
 refine run1 ?_
 refine mk_gen (cs := H.map nB) (M := fun s' => Wo _ _ _ _ _ s' _) fun s1 r1 n1 k1 => ?_
 have w1 : Wf s1 := k1.wf w0
 have lh1 := r1.all (n := 32) (by rw [List.length_map, hH]) (by decide)
 refine run1 ?_
 refine Wo.call rfl (Xc.call ok66 rfl) rfl ((place_ok (ql := ql) (m := 1) (cl := cl) (i := 0) (f := true) w1 (hb.kp w0 k1 id) hm (hM.kp w0 k1 id) hH (by rw [hV]; rfl) (fun s' k => bs1_ok (hl.kn w0 (k1.call k)) (ha.kn w0 (k1.call k)) (hq.kn w0 (k1.call k)))).mono ?_)
 rintro v s2 ⟨rfl, k2⟩
 refine run1 ?_
 exact Lv.ret rfl (k1.call k2)
end Go.Proofs.YteldpcbhfbgomaaGreatDoor
