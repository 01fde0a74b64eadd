import Derived.Test.YtglilbadldocoaaGreatDoorDezz
namespace Go.Proofs.YtglilbadldocoaaGreatDoor
open Go Go.Ev Go.Sy
set_option maxRecDepth 100000
variable {s s0 : St} {p γ δ n c m N d : Nat} {q : Option Addr} {A D F : List Nat} {L cs : List Value}
theorem alone0_ok : Cl B (.call 87 [.slice q 0 c]) s fun v s' => v = .bool false ∧ s' = s := by
 refine Cl.enter Tryz.f87 fn87 rfl rfl rfl ?_
 have h : ¬ 0 = 1 := by decide
 refine run1 ?_
 exact Lv.ret rfl ⟨rfl, rfl⟩
theorem may_ok : ∀ {d : Nat} {s : St} {cs : List Value} {F : List Nat}, Wf s → Fm s d cs F → Cl B (.call 53 [.agg ⟨cs⟩]) s fun v s' => v = .bool true ∧ Kn s s'
 | 0, _, _, _, _, h => absurd h id
 | d + 1, s, cs, F, w0, h => by
  refine Cl.enter Tryz.f53 fn53 rfl rfl rfl ?_
  refine run1 ?_
  refine mkO (cs := cs) fun s1 r1 n1 k1 => ?_
  have w1 : Wf s1 := k1.wf w0
  have gd : good (some ⟨s.nx, 0, none⟩) := good_b
  have h00 : 0 = 0 := rfl
  have h01 : ¬ 0 < 0 := by decide
  rcases h with ⟨q, c, b, q', c', rfl, h1, h2, h3⟩ | ⟨q, c, q', c', css, Fs, rfl, h1, h2, hl60, h3, h4, h5⟩
  ·have l0 : ldq s1 (qadd (some ⟨s.nx, 0, none⟩) 0) = some (.bool false) := r1.f1 rfl
   have l2 : ldq s1 (qadd (some ⟨s.nx, 0, none⟩) 2) = some (.slice q' 0 c') := r1.f1 rfl
   refine run1 ?_
   exact Lv.ret rfl ⟨rfl, k1⟩
  ·have l0 : ldq s1 (qadd (some ⟨s.nx, 0, none⟩) 0) = some (.bool true) := r1.f1 rfl
   have l1 : ldq s1 (qadd (some ⟨s.nx, 0, none⟩) 1) = some (.slice q' 0 c') := r1.f1 rfl
   have l2 : ldq s1 (qadd (some ⟨s.nx, 0, none⟩) 2) = some (.slice q Fs.length c) := r1.f1 rfl
   refine run1 ?_
   refine W.loop (α := Nat × St) (fun a => [(17, .slice q Fs.length c), (18, nI Fs.length), (19, nI a.1)]) (fun _ => []) (fun a => a.2)
    (fun a => a.1 ≤ Fs.length ∧ Kn s1 a.2) (fun a => Fs.length - a.1) (0, s1) ⟨Nat.zero_le _, .refl⟩ (.cons rfl (.cons rfl (.cons rfl .nil))) rfl rfl (by show Fs.length - 0 < _; omega) ?_
   rintro ⟨i, t0⟩ ⟨i1, i2⟩
   simp only at i1 i2
   dsimp only
   have wt : Wf t0 := i2.wf w1
   by_cases hi : i < Fs.length
   ·have kt : Kn s t0 := k1.call i2
    obtain ⟨x, hx⟩ : ∃ x, css[i]? = some x := ⟨css[i]'(by omega), List.getElem?_eq_getElem _⟩
    obtain ⟨G, hG⟩ : ∃ G, Fs[i]? = some G := ⟨Fs[i]'hi, List.getElem?_eq_getElem _⟩
    have hF := h4 i x G hx hG
    obtain ⟨gq, lx⟩ := kid (h1.kn w0 kt) h3 hx
    obtain ⟨x3, x1⟩ := hF.len
    refine run1 ?_
    refine mkO (cs := z3) fun t1 r2 n2 g1 => ?_
    have wt1 : Wf t1 := g1.wf wt
    refine Wo.st rfl rfl rfl rfl rfl rfl x3 x1 r2 (by decide) fun t2 r3 n3 g2 => ?_
    rw [lov_all (by rw [x3]; rfl)] at r3
    have k2 : Kn t0 t2 := g1.app g2 (Nat.le_refl _)
    have wt2 : Wf t2 := k2.wf wt
    have lt2 := r3.all (n := 3) x3 (by decide)
    refine run1 ?_
    refine Wo.call rfl (Xc.call ok53 rfl) rfl ((may_ok wt2 (hF.kn w0 (kt.call k2))).mono ?_)
    rintro v t3 ⟨rfl, g3⟩
    refine run1 ?_
    exact rnd.n (i + 1, t3) ⟨hi, i2.call (k2.call g3)⟩ (by show Fs.length - (i + 1) < Fs.length - i; omega) (.cons rfl (.cons rfl (.cons rfl .nil))) rfl rfl
   ·refine run1 ?_
    exact Lv.ret rfl ⟨rfl, k1.call i2⟩
theorem flat_take {Fs : List (List Nat)} {i : Nat} {G : List Nat} (h : Fs[i]? = some G) : (Fs.take (i + 1)).flatten.length = (Fs.take i).flatten.length + G.length ∧ (Fs.take (i + 1)).flatten.length ≤ Fs.flatten.length := by
 obtain ⟨h1, h2⟩ := List.getElem?_eq_some_iff.1 h
 have e : (Fs.take (i + 1)).flatten = (Fs.take i).flatten ++ G := by rw [List.take_succ_eq_append_getElem h1, List.flatten_append, h2]; simp
 refine ⟨by rw [e, List.length_append], ?_⟩
 have := List.take_append_drop (i + 1) Fs
 rw [← this, List.flatten_append, List.length_append]
 rw [List.take_append_of_le_length (by rw [List.length_take]; omega), List.take_of_length_le (by rw [List.length_take]; omega)]
 omega
theorem size_ok : ∀ {d : Nat} {s : St} {cs : List Value} {F : List Nat}, Wf s → Fm s d cs F → F.length ≤ 1048576 → Cl B (.call 54 [.agg ⟨cs⟩]) s fun v s' => v = nI F.length ∧ Kn s s'
 | 0, _, _, _, _, h, _ => absurd h id
 | d + 1, s, cs, F, w0, h, hsz => by
  refine Cl.enter Tryz.f54 fn54 rfl rfl rfl ?_
  refine run1 ?_
  refine mkO (cs := cs) fun s1 r1 n1 k1 => ?_
  have w1 : Wf s1 := k1.wf w0
  have gd : good (some ⟨s.nx, 0, none⟩) := good_b
  rcases h with ⟨q, c, b, q', c', rfl, h1, h2, h3⟩ | ⟨q, c, q', c', css, Fs, rfl, h1, h2, hl60, h3, h4, h5⟩
  ·have l1 : ldq s1 (qadd (some ⟨s.nx, 0, none⟩) 1) = some (.slice q b.length c) := r1.f1 rfl
   have l2 : ldq s1 (qadd (some ⟨s.nx, 0, none⟩) 2) = some (.slice q' 0 c') := r1.f1 rfl
   refine run1 ?_
   refine Wo.call rfl (Xc.call ok87 rfl) rfl ((alone_ok (h1.kn w0 k1) (by omega)).mono ?_)
   rintro v s' ⟨rfl, e'⟩; rw [e']; clear e' s'
   by_cases ha : b.length = 1 ∧ b.getD 0 0 < 128
   ·refine run1 ?_
    refine Lv.ret rfl ⟨?_, k1⟩
    rw [h3, fS, if_pos ha, ha.1]; rfl
   ·rw [fS, if_neg ha] at h3
    have hF : F.length = (hd 128 b.length).length + b.length := by rw [h3, List.length_append]
    have hp := hd_pos (n := b.length) (base := 128)
    refine run1 ?_
    refine W.loop (α := Unit) (fun _ => [(3, nI b.length), (14, nI 0), (15, nI 0)]) (fun _ => []) (fun _ => s1)
     (fun _ => True) (fun _ => 0) () trivial (.cons rfl (.cons rfl (.cons rfl .nil))) rfl rfl (by decide) ?_
    rintro ⟨⟩ _
    have h01 : ¬ 0 < 0 := by decide
    have hb : ¬ 1048576 < b.length := by omega
    refine run1 ?_
    refine Wo.call rfl (Xc.call ok88 rfl) rfl ((hsize_ok (base := 128) h2).mono ?_)
    rintro v s' ⟨rfl, e'⟩; rw [e']; clear e' s'
    obtain ⟨hh, ehh⟩ : ∃ hh, hh = (hd 128 b.length).length := ⟨_, rfl⟩
    rw [← ehh]
    refine run1 ?_
    refine Lv.ret rfl ⟨?_, k1⟩
    show nI (hh + b.length) = _
    rw [hF, ehh]
  ·have l1 : ldq s1 (qadd (some ⟨s.nx, 0, none⟩) 1) = some (.slice q' 0 c') := r1.f1 rfl
   have l2 : ldq s1 (qadd (some ⟨s.nx, 0, none⟩) 2) = some (.slice q Fs.length c) := r1.f1 rfl
   have hF : F.length = (hd 192 Fs.flatten.length).length + Fs.flatten.length := by rw [h5, fL, List.length_append]
   have hp := hd_pos (n := Fs.flatten.length) (base := 192)
   refine run1 ?_
   refine Wo.call rfl (Xc.call ok87 rfl) rfl (alone0_ok.mono ?_)
   rintro v s' ⟨rfl, e'⟩; rw [e']; clear e' s'
   refine run1 ?_
   refine W.loop (α := Nat × St) (fun a => [(3, nI (Fs.take a.1).flatten.length), (13, .slice q Fs.length c), (14, nI Fs.length), (15, nI a.1)]) (fun _ => []) (fun a => a.2)
    (fun a => a.1 ≤ Fs.length ∧ Kn s1 a.2) (fun a => Fs.length - a.1) (0, s1) ⟨Nat.zero_le _, .refl⟩ (.cons rfl (.cons rfl (.cons rfl (.cons rfl .nil)))) rfl rfl (by show Fs.length - 0 < _; omega) ?_
   rintro ⟨i, t0⟩ ⟨i1, i2⟩
   simp only at i1 i2
   dsimp only
   have wt : Wf t0 := i2.wf w1
   by_cases hi : i < Fs.length
   ·have kt : Kn s t0 := k1.call i2
    obtain ⟨x, hx⟩ : ∃ x, css[i]? = some x := ⟨css[i]'(by omega), List.getElem?_eq_getElem _⟩
    obtain ⟨G, hG⟩ : ∃ G, Fs[i]? = some G := ⟨Fs[i]'hi, List.getElem?_eq_getElem _⟩
    have hFm := h4 i x G hx hG
    obtain ⟨f1, f2⟩ := flat_take hG
    obtain ⟨gq, lx⟩ := kid (h1.kn w0 kt) h3 hx
    obtain ⟨x3, x1⟩ := hFm.len
    refine run1 ?_
    refine mkO (cs := z3) fun t1 r2 n2 g1 => ?_
    have wt1 : Wf t1 := g1.wf wt
    refine Wo.st rfl rfl rfl rfl rfl rfl x3 x1 r2 (by decide) fun t2 r3 n3 g2 => ?_
    rw [lov_all (by rw [x3]; rfl)] at r3
    have k2 : Kn t0 t2 := g1.app g2 (Nat.le_refl _)
    have wt2 : Wf t2 := k2.wf wt
    have lt2 := r3.all (n := 3) x3 (by decide)
    refine run1 ?_
    refine Wo.call rfl (Xc.call ok54 rfl) rfl ((size_ok wt2 (hFm.kn w0 (kt.call k2)) (by omega)).mono ?_)
    rintro v t3 ⟨rfl, g3⟩
    have hb : ¬ 1048576 < (Fs.take i).flatten.length + G.length := by omega
    refine run1 ?_
    refine rnd.n (i + 1, t3) ⟨hi, i2.call (k2.call g3)⟩ (by show Fs.length - (i + 1) < Fs.length - i; omega) (.cons ?_ (.cons rfl (.cons rfl (.cons rfl .nil)))) rfl rfl
    show some (nI ((Fs.take i).flatten.length + G.length)) = some (nI (Fs.take (i + 1)).flatten.length)
    rw [f1]
   ·have e : i = Fs.length := by omega
    subst e
    rw [List.take_length]
    have hb : ¬ 1048576 < Fs.flatten.length := by omega
    refine run1 ?_
    refine Wo.call rfl (Xc.call ok88 rfl) rfl ((hsize_ok (base := 192) (by omega)).mono ?_)
    rintro v s' ⟨rfl, e'⟩; rw [e']; clear e' s'
    obtain ⟨hh, ehh⟩ : ∃ hh, hh = (hd 192 Fs.flatten.length).length := ⟨_, rfl⟩
    rw [← ehh]
    refine run1 ?_
    refine Lv.ret rfl ⟨?_, k1.call i2⟩
    show nI (hh + Fs.flatten.length) = _
    rw [hF, ehh]
open Go Go.Ev Go.Sy
set_option maxRecDepth 100000
variable {s s0 : St} {p γ δ n c m N d : Nat} {q : Option Addr} {A D F : List Nat} {L cs : List Value}
theorem flat_drop {Fs : List (List Nat)} {i : Nat} {G : List Nat} (h : Fs[i]? = some G) : (Fs.drop i).flatten = G ++ (Fs.drop (i + 1)).flatten := by
 obtain ⟨h1, h2⟩ := List.getElem?_eq_some_iff.1 h
 rw [List.drop_eq_getElem_cons h1, List.flatten_cons, h2]
theorem flat_dlen {Fs : List (List Nat)} {i : Nat} : (Fs.drop i).flatten.length ≤ Fs.flatten.length := by
 have := congrArg (fun l : List (List Nat) => l.flatten.length) (List.take_append_drop i Fs)
 simp only [List.flatten_append, List.length_append] at this
 omega
theorem lov_at {a b : List Nat} {o k : Nat} (h : k + a.length = o) (hl : o + b.length ≤ L.length) : lov (lov L o (b.map nB)) k (a.map nB) = lov L k ((a ++ b).map nB) := by
 have := lov_lov (l := L) (a := a.map nB) (b := b.map nB) (o := k) (by rw [List.length_map, List.length_map]; omega)
 rw [List.length_map, h, ← List.map_append] at this
 exact this
set_option maxHeartbeats 1600000 in
theorem witem_ok (hw0 : Wf s0) : ∀ {d : Nat} {s : St} {m : Nat} {L cs : List Value} {F : List Nat}, Fm s0 d cs F → Kp (fun c => s0.nx ≤ c) s0 s → Rw s p L γ → s0.nx ≤ γ → L.length = N → N < 2 ^ 40 → m ≤ N → F.length ≤ m →
  Cl B (.call 55 [.slice (some ⟨p, 0, none⟩) m (sure N), .agg ⟨cs⟩]) s fun v s' => v = .slice (some ⟨p, 0, none⟩) (m - F.length) (sure N) ∧ Rw s' p (lov L (m - F.length) (F.map nB)) γ ∧ Kp (fun c => c = γ) s s'
 | 0, _, _, _, _, _, h, _, _, _, _, _, _, _ => absurd h id
 | d + 1, s, m, L, cs, F, h, K, hr, hγ, hL, hN, hm, hF => by
  have w0 : Wf s := K.wf hw0
  refine Cl.enter Tryz.f55 fn55 rfl rfl rfl ?_
  refine run1 ?_
  refine mkO (cs := cs) fun s1 r1 n1 k1 => ?_
  have w1 : Wf s1 := k1.wf w0
  have gd : good (some ⟨s.nx, 0, none⟩) := good_b
  have hrl := hr.lt w0
  have rr1 : Rw s1 p L γ := hr.kp w0 k1 id
  have K1 : Kp (fun c => s0.nx ≤ c) s0 s1 := K.trans (k1.w)
  rcases h with ⟨q, c, b, q', c', rfl, h1, h2, h3⟩ | ⟨q, c, q', c', css, Fs, rfl, h1, h2, hl60, h3, h4, h5⟩
  ·have l0 : ldq s1 (qadd (some ⟨s.nx, 0, none⟩) 0) = some (.bool false) := r1.f1 rfl
   have l1 : ldq s1 (qadd (some ⟨s.nx, 0, none⟩) 1) = some (.slice q b.length c) := r1.f1 rfl
   refine run1 ?_
   refine Wo.call rfl (Xc.call ok87 rfl) rfl ((alone_ok (At.kpN h1 hw0 K1) (by omega)).mono ?_)
   rintro v s' ⟨rfl, e'⟩; rw [e']; clear e' s'
   by_cases ha : b.length = 1 ∧ b.getD 0 0 < 128
   ·rw [fS, if_pos ha] at h3
    subst h3
    refine run1 ?_
    refine Wo.call rfl (Xc.call ok89 rfl) rfl ((wend_ok w1 rr1 hL (by omega) hm (At.kpN h1 hw0 K1) hF).mono ?_)
    rintro v s2 ⟨rfl, r2, n2, k2⟩
    refine run1 ?_
    exact Lv.ret rfl ⟨rfl, r2, (k1.w).trans k2⟩
   ·rw [fS, if_neg ha] at h3
    have hFl : F.length = (hd 128 b.length).length + b.length := by rw [h3, List.length_append]
    refine run1 ?_
    refine W.dr [(0, .none, 0), (1, .none, 0), (2, .reads, 2), (3, .acts, 7), (4, .none, 0), (5, .reads, 16), (6, .none, 48), (7, .acts, 127), (8, .none, 255)] (by kernel_rfl) rfl (run1 ?_)
    refine Wd.call rfl (Xc.call ok89 rfl) rfl ((wend_ok w1 rr1 hL (by omega) hm (At.kpN h1 hw0 K1) (by omega)).mono ?_)
    rintro v s2 ⟨rfl, r2, n2, k2⟩
    refine ⟨k2.le, ?_⟩
    have w2 : Wf s2 := k2.wf w1
    have l12 : ldq s2 (qadd (some ⟨s.nx, 0, none⟩) 1) = some (.slice q b.length c) := (r1.kp w1 k2 (by omega)).f1 rfl
    have hL2 : (lov L (m - b.length) (b.map nB)).length = N := by rw [lov_length (by rw [List.length_map]; omega), hL]
    refine run1 ?_
    refine Wd.call rfl (Xc.call ok90 rfl) rfl ((whead_ok (base := 128) (.inl rfl) w2 r2 hL2 (by omega) (by omega) h2 (by omega)).mono ?_)
    rintro v s3 ⟨rfl, r3, k3⟩
    refine ⟨k3.le, run1 ?_⟩
    have e : m - b.length - (hd 128 b.length).length = m - F.length := by omega
    rw [e] at r3 ⊢
    refine Lv.ret rfl ⟨rfl, ?_, ((k1.w).trans k2).trans k3⟩
    rw [lov_at (by omega) (by omega), ← h3] at r3
    exact r3
  ·have l0 : ldq s1 (qadd (some ⟨s.nx, 0, none⟩) 0) = some (.bool true) := r1.f1 rfl
   have l1 : ldq s1 (qadd (some ⟨s.nx, 0, none⟩) 1) = some (.slice q' 0 c') := r1.f1 rfl
   have l2 : ldq s1 (qadd (some ⟨s.nx, 0, none⟩) 2) = some (.slice q Fs.length c) := r1.f1 rfl
   have hFl : F.length = (hd 192 Fs.flatten.length).length + Fs.flatten.length := by rw [h5, fL, List.length_append]
   refine run1 ?_
   refine Wo.call rfl (Xc.call ok87 rfl) rfl (alone0_ok.mono ?_)
   rintro v s' ⟨rfl, e'⟩; rw [e']; clear e' s'
   refine run1 ?_
   refine Wo.val rfl (Xv.subZ rfl rfl (by omega) (by omega) rfl) rfl ?_
   rw [show (Value.int .i64 ((Fs.length : Int) - ((1 : Nat) : Int))) = zI Fs.length from zI_eq]
   refine run1 ?_
   refine W.loop (α := Nat × St) (fun a => [(0, .slice (some ⟨p, 0, none⟩) m (sure N)), (3, .pointer (some ⟨s.nx, 0, none⟩)), (5, .slice (some ⟨p, 0, none⟩) (m - (Fs.drop a.1).flatten.length) (sure N)), (6, zI a.1)]) (fun _ => []) (fun a => a.2)
    (fun a => a.1 ≤ Fs.length ∧ Rw a.2 p (lov L (m - (Fs.drop a.1).flatten.length) ((Fs.drop a.1).flatten.map nB)) γ ∧ Kp (fun c => c = γ) s1 a.2) (fun a => a.1) (Fs.length, s1) ⟨Nat.le_refl _, ?_, .refl⟩ (.cons rfl (.cons rfl (.cons ?_ (.cons rfl .nil)))) rfl rfl (by show Fs.length < _; omega) ?_
   ·show Rw s1 p (lov L (m - (Fs.drop Fs.length).flatten.length) ((Fs.drop Fs.length).flatten.map nB)) γ
    rw [List.drop_length, List.flatten_nil, List.map_nil, lov_nil]; exact rr1
   ·show some (Value.slice (some ⟨p, 0, none⟩) m (sure N)) = some (Value.slice (some ⟨p, 0, none⟩) (m - (Fs.drop Fs.length).flatten.length) (sure N))
    rw [List.drop_length, List.flatten_nil]; rfl
   rintro ⟨j, t0⟩ ⟨i1, i2, i3⟩
   simp only at i1 i2 i3
   dsimp only
   have wt : Wf t0 := i3.wf w1
   have Kt : Kp (fun c => s0.nx ≤ c) s0 t0 := K1.trans (i3.mono fun c h => by subst h; exact hγ)
   have hdl := flat_dlen (Fs := Fs) (i := j)
   have hLt : (lov L (m - (Fs.drop j).flatten.length) ((Fs.drop j).flatten.map nB)).length = N := by rw [lov_length (by rw [List.length_map]; omega), hL]
   have r1t := r1.kp w1 i3 (by omega)
   cases j with
   | zero =>
    rw [List.drop_zero] at i2 hLt ⊢
    have hneg : ¬ (0 : Int) ≤ Int.negSucc 0 := by decide
    refine run1 ?_
    have e : m - (m - Fs.flatten.length) = Fs.flatten.length := by omega
    rw [e]
    refine Wo.call rfl (Xc.call ok90 rfl) rfl ((whead_ok (base := 192) (.inr rfl) wt i2 hLt (by omega) (by omega) (by omega) (by omega)).mono ?_)
    rintro v s3 ⟨rfl, r3, k3⟩
    refine run1 ?_
    have e : m - Fs.flatten.length - (hd 192 Fs.flatten.length).length = m - F.length := by omega
    rw [e] at r3 ⊢
    refine Lv.ret rfl ⟨rfl, ?_, ((k1.w).trans i3).trans k3⟩
    rw [lov_at (by omega) (by omega), show hd 192 Fs.flatten.length ++ Fs.flatten = F from h5.symm] at r3
    exact r3
   | succ i =>
    have hi : i < Fs.length := i1
    have hpos : (0 : Nat) ≤ i := Nat.zero_le _
    obtain ⟨x, hx⟩ : ∃ x, css[i]? = some x := ⟨css[i]'(by omega), List.getElem?_eq_getElem _⟩
    obtain ⟨G, hG⟩ : ∃ G, Fs[i]? = some G := ⟨Fs[i]'hi, List.getElem?_eq_getElem _⟩
    have hFm := h4 i x G hx hG
    have fd := flat_drop hG
    have fdl : (Fs.drop i).flatten.length = G.length + (Fs.drop (i + 1)).flatten.length := by rw [fd, List.length_append]
    have fd2 := flat_dlen (Fs := Fs) (i := i)
    obtain ⟨gq, lx⟩ := kid (At.kpN h1 hw0 Kt) h3 hx
    have lt2 : ldq t0 (qadd (some ⟨s.nx, 0, none⟩) 2) = some (.slice q Fs.length c) := r1t.f1 rfl
    show W _ _ [(0, .slice (some ⟨p, 0, none⟩) m (sure N)), (3, .pointer (some ⟨s.nx, 0, none⟩)), (5, .slice (some ⟨p, 0, none⟩) (m - (Fs.drop (i + 1)).flatten.length) (sure N)), (6, nI i)] _ _ _
    refine run1 ?_
    refine Wo.call rfl (Xc.call ok55 rfl) rfl ((witem_ok hw0 hFm Kt i2 hγ hLt hN (by omega) (by omega)).mono ?_)
    rintro v t1 ⟨rfl, g1, g2⟩
    refine run1 ?_
    refine Wo.val rfl (Xv.subZ rfl rfl (by omega) (by omega) rfl) rfl ?_
    rw [show (Value.int .i64 ((i : Int) - ((1 : Nat) : Int))) = zI i from zI_eq]
    refine run1 ?_
    have e : m - (Fs.drop (i + 1)).flatten.length - G.length = m - (Fs.drop i).flatten.length := by omega
    rw [e] at g1 ⊢
    refine rnd.n (i, t1) ⟨by show i ≤ Fs.length; omega, ?_, i3.trans g2⟩ (by show i < i + 1; omega) (.cons rfl (.cons rfl (.cons rfl (.cons rfl .nil)))) rfl rfl
    rw [lov_at (by omega) (by omega), ← fd] at g1
    exact g1
theorem form_pos (h : Fm s d cs F) : 0 < F.length := by
 cases d with
 | zero => exact absurd h id
 | succ d =>
  rcases h with ⟨q, c, b, q', c', rfl, h1, h2, h3⟩ | ⟨q, c, q', c', css, Fs, rfl, h1, h2, hl60, h3, h4, h5⟩
  ·rw [h3, fS]
   split
   ·omega
   ·rw [List.length_append]; have := hd_pos (n := b.length) (base := 128); omega
  ·rw [h5, fL, List.length_append]; have := hd_pos (n := Fs.flatten.length) (base := 192); omega
theorem encode_ok (w0 : Wf s) (h : Fm s d cs F) (hd : d ≤ 80) (hF : F.length ≤ 1048576) :
  Cl B (.call 32 [.agg ⟨cs⟩]) s fun v s' => ∃ b, v = .tuple ⟨[.slice (some ⟨b, 0, none⟩) F.length (sure F.length), nI 0]⟩ ∧ s.nx ≤ b ∧ Rw s' b (F.map nB) b ∧ Kn s s' := by
 obtain ⟨x3, x1⟩ := h.len
 have hp := form_pos h
 refine Cl.enter Tryz.f32 fn32 rfl rfl rfl ?_
 refine run1 ?_
 refine mkO (cs := cs) fun s1 r1 n1 k1 => ?_
 have w1 : Wf s1 := k1.wf w0
 have l1 := r1.all (n := 3) x3 (by decide)
 refine run1 ?_
 refine Wo.call rfl (Xc.call ok52 rfl) rfl ((deeper_ok w1 (h.kn w0 k1) hd (by decide)).mono ?_)
 rintro v s2 ⟨rfl, k2⟩
 have w2 : Wf s2 := k2.wf w1
 have l2 := (r1.kp w1 k2 id).all (n := 3) x3 (by decide)
 refine run1 ?_
 refine Wo.call rfl (Xc.call ok53 rfl) rfl ((may_ok w2 (h.kn w0 (k1.call k2))).mono ?_)
 rintro v s3 ⟨rfl, k3⟩
 have w3 : Wf s3 := k3.wf w2
 have k13 : Kn s1 s3 := k2.call k3
 have l3 := (r1.kp w1 k13 id).all (n := 3) x3 (by decide)
 refine run1 ?_
 refine Wo.call rfl (Xc.call ok54 rfl) rfl ((size_ok w3 (h.kn w0 (k1.call k13)) hF).mono ?_)
 rintro v s4 ⟨rfl, k4⟩
 have w4 : Wf s4 := k4.wf w3
 have k14 : Kn s1 s4 := k13.call k4
 have hb : ¬ 1048576 < F.length := by omega
 refine run1 ?_
 refine Wo.val rfl (Xv.make rfl rfl rfl rfl rfl (Nat.le_refl _) rfl (by omega) (by omega)) rfl ?_
 refine mk_gen (M := fun s' => Wo _ _ _ _ _ s' _) fun s5 r5 n5 k5 => ?_
 have r5' : Rw s5 s4.nx ((List.replicate F.length 0).map nB) s4.nx := by
  rw [← rep_flat]; exact r5
 have w5 : Wf s5 := k5.wf w4
 have k05 : Kn s s5 := k1.call (k14.call k5)
 have l5 := (r1.kp w1 (k14.call k5) id).all (n := 3) x3 (by decide)
 have h04 : s.nx ≤ s4.nx := Nat.le_trans k1.le k14.le
 refine run1 ?_
 refine Wo.call rfl (Xc.call ok55 rfl) rfl ((witem_ok (N := F.length) w0 h (k05.w) r5' h04 (by simp) (by omega) (Nat.le_refl _) (Nat.le_refl _)).mono ?_)
 rintro v s6 ⟨rfl, r6, k6⟩
 rw [Nat.sub_self, lov_all (by simp)] at r6
 refine run1 ?_
 exact Lv.ret rfl ⟨s4.nx, rfl, h04, r6, k05.app k6 h04⟩
theorem number_ok (w0 : Wf s) (hn : n < 2 ^ 62) :
  Cl B (.call 56 [.int .i64 (.ofNat n)]) s fun v s' => ∃ b, v = .tuple ⟨[.agg ⟨[.bool false, .slice (some ⟨b, 0, none⟩) (dgs n).length (sure (dgs n).length), .slice none 0 0]⟩, nI 0]⟩ ∧ s.nx ≤ b ∧ Rw s' b ((dgs n).map nB) b ∧ Kn s s' := by
 refine Cl.enter Tryz.f56 fn56 rfl rfl rfl ?_
 have h0 : ¬ n < 0 := Nat.not_lt_zero _
 refine run1 ?_
 refine mkO (cs := z3) fun s1 r1 n1 k1 => ?_
 have w1 : Wf s1 := k1.wf w0
 rw [show n.mod 18446744073709551616 = n from Nat.mod_eq_of_lt (by omega)]
 refine Wo.call rfl (Xc.call ok91 rfl) rfl ((digits_ok w1 hn).mono ?_)
 rintro v s2 ⟨b, rfl, hb, r2, k2⟩
 have w2 : Wf s2 := k2.wf w1
 refine run1 ?_
 refine Wo.st rfl rfl rfl rfl rfl rfl rfl (by intro v hv; simp at hv; rcases hv with rfl | rfl | rfl <;> rfl) (r1.kp w1 k2 id) (by decide) fun s3 r3 n3 k3 => ?_
 have r3' : Rw s3 s.nx [.bool false, .slice (some ⟨b, 0, none⟩) (dgs n).length (sure (dgs n).length), .slice none 0 0] s.nx := r3
 refine run1 ?_
 have hcl := cell_at (B := B) (t := 94) rfl rfl r3' rfl rfl
 refine Lv.ret (vs := [.agg ⟨[.bool false, .slice (some ⟨b, 0, none⟩) (dgs n).length (sure (dgs n).length), .slice none 0 0]⟩, nI 0]) ?_ ⟨b, rfl, by omega, r2.kp w2 k3 (by omega), (k1.call k2).app k3 (Nat.le_refl _)⟩
 show (match cell1 B.P (.pointer (some ⟨s.nx, 0, none⟩)) 94 s3, some [nI 0] with | some v, some vs => some (v :: vs) | _, _ => none) = _
 rw [hcl]
end Go.Proofs.YtglilbadldocoaaGreatDoor
namespace Go.Sy
open Go Go.Ev
theorem sl_end {X : Fx} {env : Env} {s : St} {t t0 n0 e t1 size : Nat} {z0 z : Option (List Value)} {ke : Sh} {x y : Operand} (ht : tk X.B.T t = some ⟨t0, n0, .sl e, z0⟩) (he : tk X.B.T e = some ⟨t1, size, ke, z⟩) (hx : ev env x = some (.slice none 0 0)) (hy : ev env y = some (nI 0)) : Xv X (.slice t x (some y) none none) env s (.slice none 0 0) s := (Xv.slN ht he hx hy).2
end Go.Sy
namespace Go.Proofs.YtglilbadldocoaaGreatDoor
open Go Go.Ev Go.Sy
set_option maxRecDepth 100000
variable {s : St} {p γ δ n c : Nat} {q : Option Addr} {S M A D O R : List Nat} {nb cb r1 n1 r2 n2 r3 n3 : Nat}
theorem insert0_ok {v : Value} {ql : Option Addr} {cl : Nat} (w0 : Wf s) (hl : At s ql [v]) (hv : one v = true) :
  Cl B (.call 61 [.slice none 0 0, nI 0, .slice ql 1 cl]) s fun u s' => ∃ q' c' γ', u = .slice q' 1 c' ∧ Gw s' q' 1 c' 1 [v] γ' ∧ s.nx ≤ γ' ∧ Kn s s' := by
 refine Cl.enterN Tryz.f61 fn61 (show B.hook _ = some insH from rfl) rfl rfl rfl ?_
 refine run1 ?_
 refine Wo.val rfl (sl_end rfl rfl rfl rfl) rfl (run1 ?_)
 refine Wo.app rfl rfl rfl rfl rfl rfl rfl rfl rfl w0 (Gw.nil (γ := s.nx)) rfl (cells_at (k := 1) (size := 1) hl rfl (by decide)) rfl (by intro u hu; rw [List.mem_singleton.1 hu]; exact hv) rfl (by decide) (by decide) ?_
 intro q' c' γ' s' h1 h2 h3
 refine run1 ?_
 refine Lv.ret rfl ⟨q', c', γ', rfl, h1, ?_, Kn.app .refl h2 (Nat.le_refl _)⟩
 rcases h3 with h | ⟨h, _⟩ <;> omega
theorem At.one {b o : Nat} {l : List Value} {v : Value} (h : Rw s b l γ) (hv : l[o]? = some v) {i : Nat} (ho : o = i) : ldq s (some ⟨b, i, none⟩) = some v := by
 subst ho
 have := h.f1 hv
 have e : qadd (some ⟨b, 0, none⟩) o = some ⟨b, o, none⟩ := by show some (Addr.mk b (0 + o) none) = _; rw [Nat.zero_add]
 rw [e] at this; exact this
end Go.Proofs.YtglilbadldocoaaGreatDoor
namespace Go.Sy
open Go Go.Ev
theorem Wo.dfr {X : Fx} {env : Env} {df : List Deferred} {s : St} {Q : Post} {all os : List Oper} {ty : TypeId} {pos : String} {af : Array Edge} {g : Option (Nat × Bool)} {f : FuncId} {args : Array Operand} {ts : Array TypeId} {vs : List Value} (hg : wantsE all env g = some true) (hrd : X.rd = none) (ha : evs env args.toList = some vs)
  (k : Wo X all os env (⟨.fn (.func f) #[], ⟨vs⟩⟩ :: df) s Q) : Wo X all (⟨none, .defer ⟨.value (.func f), args, ts⟩, ty, pos, af, g⟩ :: os) env df s Q := by
 constructor; intro tm hf
 have hx : exec X.P (.defer ⟨.value (.func f), args, ts⟩) tm s = .ok (.defer ⟨.fn (.func f) #[], ⟨vs⟩⟩) s := by
  show Re.ok (.defer ⟨.fn (.func f) #[], ⟨appO [] (opds tm args.toList)⟩⟩) s = _
  rw [evs_opds hf ha, appO_eq, List.nil_append]
 have ho : ∀ rec, oper X.P rec X.rd all ⟨none, .defer ⟨.value (.func f), args, ts⟩, ty, pos, af, g⟩ (.mk X.nt tm df) s = .ok (.mk X.nt tm (⟨.fn (.func f) #[], ⟨vs⟩⟩ :: df)) s := fun rec => by
  unfold oper
  simp only [wants_ok hf hg, hx, after, hrd]
  rfl
 obtain ⟨e, env', tm', df', s2, k1, k2, k3⟩ := (k).w tm hf
 exact ⟨e, env', tm', df', s2, k1.mono fun m a => by dsimp only at a; show asN (thenO (oper _ _ _ _ _ _ _) _) = _; rw [ho]; exact a, k2, k3⟩
theorem Cl.toLate {B : Bx} {f : FuncId} {args : List Value} {s : St} {Q : Value → St → Prop} (hk : B.hook f = none) (h : Cl B (.call f args) s Q) : Cl B (.late f args) s Q := by
 obtain ⟨v, s', h1, h2⟩ := h
 refine ⟨v, s', h1.mono fun m hm => ?_, h2⟩
 cases m with
 | zero => cases hm
 | succ m =>
  have hm' : (match B.hook f with | some h => orElse (h args s) (Ev.enter B.P (run B.P B.hook m) f args) s | none => Ev.enter B.P (run B.P B.hook m) f args s) = .ok v s' := hm
  rw [hk] at hm'
  exact hm'
theorem Lv.retD {B : Bx} {rs : List ResultVar} {Q : Value → St → Prop} {env : Env} {df : List Deferred} {s : St} (hl : df.length ≤ 100) (h : Dfr B df s fun s => ∃ vs, resE B.P env s rs = some vs ∧ Q (rv vs) s) : Lv B rs Q .ret env df s := ⟨⟨hl, h⟩⟩
end Go.Sy
namespace Go.Proofs.YtglilbadldocoaaGreatDoor
open Go Go.Ev Go.Sy
set_option maxRecDepth 100000
variable {s : St} {p γ δ n c : Nat} {q : Option Addr} {S M A D O R : List Nat} {nb cb r1 n1 r2 n2 r3 n3 : Nat}
end Go.Proofs.YtglilbadldocoaaGreatDoor
