import Derived.Test.YtcnhinnpieehoaaGreatDoorRszz
namespace Go.Proofs.YtcnhinnpieehoaaGreatDoor
open Go Go.Ev Go.Sy
set_option maxRecDepth 100000
variable {s s0 : St} {p γ δ n c m N d : Nat} {q : Option Addr} {A D F : List Nat} {L cs : List Value}
theorem head_bad {l : List Nat} {p e m c : Nat} (h : Nz.rdHead l p e m = .bad c) : c ≠ 0 := by
 unfold Nz.rdHead at h
 repeat' split at h
 all_goals cases h
 all_goals decide
theorem rdL_bad {f : Nat → Nat → Nz.Rd} (hf : ∀ a e p c, f a e = .bad p c → c ≠ 0) {e p c : Nat} : ∀ {n a : Nat} {acc : List Nz.It}, Nz.rdL f n a e acc = .bad p c → c ≠ 0
 | 0, _, _, h => by cases h
 | n + 1, a, acc, h => by
  rw [Nz.rdL] at h
  split at h
  ·split at h
   ·rename_i hh; cases h; exact hf _ _ _ _ hh
   ·exact rdL_bad hf h
  ·cases h
theorem rd_bad {l : List Nat} : ∀ {d p e p' c : Nat}, Nz.rd l d p e = .bad p' c → c ≠ 0 := by
 intro d
 induction d with
 | zero =>
  intro p e p' c h
  rw [Nz.rd_eq] at h
  split at h
  ·cases h; decide
  ·split at h
   ·cases h
   ·split at h
    ·split at h
     ·rename_i hh; cases h; exact head_bad hh
     ·split at h <;> cases h; decide
    ·rw [if_pos rfl] at h; cases h; decide
 | succ d ih =>
  intro p e p' c h
  rw [Nz.rd_eq] at h
  split at h
  ·cases h; decide
  ·split at h
   ·cases h
   ·split at h
    ·split at h
     ·rename_i hh; cases h; exact head_bad hh
     ·split at h <;> cases h; decide
    ·rw [if_neg (Nat.succ_ne_zero d)] at h
     split at h
     ·rename_i hh; cases h; exact head_bad hh
     ·exact rdL_bad (fun a e p c hh => ih hh) h
theorem dec_bad {l : List Nat} {p e : Nat} (h : Nz.dec l = .bad p e) : e ≠ 0 := by
 unfold Nz.dec at h
 split at h
 ·cases h; decide
 ·split at h
  ·rename_i hh; cases h; exact rd_bad hh
  ·split at h <;> cases h; decide
theorem decode_ok {b o : Nat} {l : List Nat} (w0 : Wf s) (h : At s (some ⟨b, o, none⟩) (l.map nB)) (hb : ∀ x ∈ l, x < 256) (hc : Rm c l.length 1) (hl : l.length ≤ 1048576) :
  Cl B (.call 43 [.slice (some ⟨b, o, none⟩) l.length c]) s fun v s' => Kn s s' ∧ ((∃ cs, v = .tuple ⟨[.agg ⟨cs⟩, nI 0, nI 0]⟩ ∧ Im s' 81 cs) ∨ ∃ p e, v = .tuple ⟨[.agg ⟨[.bool false, .chan (some 0), .chan (some 0)]⟩, nI p, nI e]⟩ ∧ e ≠ 0) := by
 cases hd : Nz.dec l with
 | ok x => exact (decode_yes w0 h hb hc hd).mono fun v s' ⟨cs, e, h1, h2⟩ => ⟨h2, .inl ⟨cs, e, h1⟩⟩
 | bad p e =>
  have hbytes : Dg.bytesO (readAt s b o l.length) = some l := by
   rcases h with ⟨h0, h1⟩ | ⟨b', o', e, hr⟩
   ·rcases h1 with h1 | ⟨_, _, _, h1⟩ <;> cases h1
   ·cases e
    rw [List.length_map] at hr
    rw [hr]
    exact bytesN_map hb
  refine Cl.hook (g := Nz.badH) (v := .tuple ⟨[.agg ⟨[.bool false, .chan (some 0), .chan (some 0)]⟩, nI p, nI e]⟩) (s' := s) rfl ?_ ⟨.refl, .inr ⟨p, e, rfl, dec_bad hd⟩⟩
  show cond (Nat.ble l.length (capOf c) && Nat.ble l.length 1048577) (Nz.badDec (Dg.bytesO (readAt s b o l.length)) s) .no = _
  rw [Nat.ble_eq_true_of_le hc.2.1, Nat.ble_eq_true_of_le (show l.length ≤ 1048577 by omega), hbytes]
  show Nz.badDec (some l) s = _
  unfold Nz.badDec
  simp only [hd, fN_eq]
  rfl
theorem int_ok (w0 : Wf s) (h : Im s (d + 1) cs) : Cl B (.call 71 [.agg ⟨cs⟩]) s fun v s' => ∃ n e, v = .tuple ⟨[nI n, nI e]⟩ ∧ n < 9223372036854775808 ∧ Kn s s' := by
 refine Cl.enter Tryz.f71 fn71 rfl rfl rfl ?_
 refine run1 ?_
 refine mkO (cs := cs) fun s1 r1 n1 k1 => ?_
 have w1 : Wf s1 := k1.wf w0
 have gd : good (some ⟨s.nx, 0, none⟩) := good_b
 have h01 : ¬ 0 < 0 := by decide
 rcases h with ⟨q, c, b, rfl, h1, h2, h3⟩ | ⟨q, c, css, rfl, _⟩
 ·have l0 : ldq s1 (qadd (some ⟨s.nx, 0, none⟩) 0) = some (.bool false) := r1.f1 rfl
  have l1 : ldq s1 (qadd (some ⟨s.nx, 0, none⟩) 1) = some (.slice q b.length c) := r1.f1 rfl
  have l2 : ldq s1 (qadd (some ⟨s.nx, 0, none⟩) 2) = some (.slice none 0 0) := r1.f1 rfl
  have hB : Bs s1 q b := h1.kn w0 k1
  by_cases h8 : 8 < b.length
  ·refine run1 ?_
   exact Lv.ret rfl ⟨0, 52, rfl, by decide, k1⟩
  ·by_cases hp : 0 < b.length
   ·by_cases hz : b.getD 0 0 = 0
    ·refine run1 ?_
     exact Lv.ret rfl ⟨0, 52, rfl, by decide, k1⟩
    ·refine run1 ?_
     refine Wo.call rfl (Xc.call ok103 rfl) rfl ((num_ok hB h3 (by omega)).mono ?_)
     rintro v s' ⟨rfl, e'⟩; rw [e']; clear e' s'
     by_cases hm : 9223372036854775807 < Nz.num b
     ·refine run1 ?_
      exact Lv.ret rfl ⟨0, 52, rfl, by decide, k1⟩
     ·refine run1 ?_
      refine Wo.val rfl (Xv.cv rfl rfl rfl (wrapI (by omega))) rfl (run1 ?_)
      exact Lv.ret rfl ⟨_, 0, rfl, by omega, k1⟩
   ·refine run1 ?_
    refine Wo.call rfl (Xc.call ok103 rfl) rfl ((num_ok hB h3 (by omega)).mono ?_)
    rintro v s' ⟨rfl, e'⟩; rw [e']; clear e' s'
    by_cases hm : 9223372036854775807 < Nz.num b
    ·refine run1 ?_
     exact Lv.ret rfl ⟨0, 52, rfl, by decide, k1⟩
    ·refine run1 ?_
     refine Wo.val rfl (Xv.cv rfl rfl rfl (wrapI (by omega))) rfl (run1 ?_)
     exact Lv.ret rfl ⟨_, 0, rfl, by omega, k1⟩
 ·have l0 : ldq s1 (qadd (some ⟨s.nx, 0, none⟩) 0) = some (.bool true) := r1.f1 rfl
  refine run1 ?_
  exact Lv.ret rfl ⟨0, 52, rfl, by decide, k1⟩
theorem jnum_ok (w0 : Wf s) (h : Im s (d + 1) cs) : Cl B (.call 44 [.agg ⟨cs⟩]) s fun v s' => ∃ n, v = nI n ∧ n < 9223372036854775808 ∧ Kn s s' := by
 have h3 := h.len
 refine Cl.enter Tryz.f44 fn44 rfl rfl rfl ?_
 refine run1 ?_
 refine mkO (cs := cs) fun s1 r1 n1 k1 => ?_
 have w1 : Wf s1 := k1.wf w0
 have l1 := r1.all (n := 3) h3.1 (by decide)
 refine run1 ?_
 refine Wo.call rfl (Xc.call ok71 rfl) rfl ((int_ok w1 (h.kn w0 k1)).mono ?_)
 rintro v s2 ⟨n, e, rfl, hn, k2⟩
 refine run1 ?_
 exact Lv.ret rfl ⟨n, rfl, hn, k1.call k2⟩
theorem Im.bytes (h : Im s (d + 1) cs) : ∃ (g : Bool) (q : Option Addr) (c : Nat) (b : List Nat) (q' : Option Addr) (n' c' : Nat), cs = [.bool g, .slice q b.length c, .slice q' n' c'] ∧ At s q (b.map nB) ∧ b.length ≤ 1048576 ∧ ∀ x ∈ b, x < 256 := by
 rcases h with ⟨q, c, b, rfl, h⟩ | ⟨q, c, css, rfl, _⟩
 ·exact ⟨_, _, _, b, _, _, _, rfl, h⟩
 ·exact ⟨_, none, 0, [], _, _, _, rfl, .inl ⟨rfl, .inl rfl⟩, by decide, fun x hx => (List.not_mem_nil hx).elim⟩
theorem kid_ld {css : List (List Value)} (h : At s q css.flatten) (hl : ∀ x ∈ css, x.length = 3) {i : Nat} {x : List Value} (hx : css[i]? = some x) {j : Nat} {v : Value} (hv : x[j]? = some v) : ldq s (qadd (qadd q (i * 3)) j) = some v := by
 obtain ⟨h1, h2⟩ := flat3 hl hx
 have hj : j < 3 := by rw [← hl x (List.mem_of_getElem? hx)]; exact (List.getElem?_eq_some_iff.1 hv).1
 have h3 : i * 3 + j < css.flatten.length := by omega
 have h4 : css.flatten[i * 3 + j] = v := by
  have e : ((css.flatten.drop (i * 3)).take 3)[j]? = some v := by rw [h1]; exact hv
  rw [List.getElem?_take, if_pos hj, List.getElem?_drop, List.getElem?_eq_getElem h3] at e
  exact Option.some.inj e
 have h5 := At.ld h h3
 rw [h4] at h5
 rw [← h5]
 obtain ⟨b, o, rfl⟩ := h.good h3
 show ldq s (some ⟨b, o + i * 3 + j, none⟩) = ldq s (some ⟨b, o + (i * 3 + j), none⟩)
 rw [Nat.add_assoc]
theorem hashOf_ok (w0 : Wf s) (h : Im s (d + 1) cs) : Cl B (.call 45 [.agg ⟨cs⟩]) s fun v s' => ∃ P, v = hsh P ∧ P.length = 32 ∧ (∀ x ∈ P, x < 256) ∧ Kn s s' := by
 obtain ⟨g, q, c, b, q', n', c', rfl, hq, hb1, hb2⟩ := h.bytes
 refine Cl.enter Tryz.f45 fn45 rfl rfl rfl ?_
 refine run1 ?_
 generalize hs1 : mkRow s [.bool g, .slice q b.length c, .slice q' n' c'] = s1
 have r1 : Rw s1 s.nx [.bool g, .slice q b.length c, .slice q' n' c'] s.nx := hs1 ▸ mkRow_rw
 have k1 : Kn s s1 := hs1 ▸ mkRow_kn
 have n1 : s1.nx = s.nx + 1 := hs1 ▸ rfl
 have w1 := k1.wf w0
 obtain ⟨Z, hZ⟩ : ∃ Z : List Nat, Z = List.replicate 32 0 := ⟨_, rfl⟩
 refine mk_gen (s := mkRow s1 ((List.replicate 32 0).map nB)) (cs := (List.replicate 32 0).map nB) (M := fun s' => W _ _ _ _ s' _) fun s3 r3 n3 k3 => ?_
 have r2 : Rw s3 s1.nx ((List.replicate 32 0).map nB) s1.nx := mkRow_rw.kp (mkRow_wf w1) k3 id
 have k13 : Kn s1 s3 := mkRow_kn.call k3
 have hn2 : (mkRow s1 ((List.replicate 32 0).map nB)).nx = s1.nx + 1 := rfl
 rw [hn2] at r3 n3
 have w3 := k13.wf w1
 have gd : good (some ⟨s.nx, 0, none⟩) := good_b
 have l1 : ldq s3 (qadd (some ⟨s.nx, 0, none⟩) 1) = some (.slice q b.length c) := (r1.kp w1 k13 id).f1 rfl
 refine W.dr [(0, .none, 0), (1, .none, 0), (2, .reads, 2), (3, .acts, 7)] (by kernel_rfl) rfl (run1 ?_)
 refine Wd.val rfl (Xv.slP (b := s1.nx + 1) (o := 0) rfl rfl rfl (by decide)).1 rfl (Nat.le_refl _) (run1 ?_)
 refine Wd.cpy rfl rfl rfl rfl rfl rfl rfl r3 (hq.kn w0 (k1.call k13)) (by rw [List.length_map, Nat.mul_one]) one_nB (by rw [List.length_map, List.length_replicate]; decide) fun s4 r4 n4 k4 => ?_
 obtain ⟨P, hP⟩ : ∃ P, P = b.take (min b.length 32) ++ (List.replicate 32 0).drop (min b.length 32) := ⟨_, rfl⟩
 have eP : lov ((List.replicate 32 0).map nB) 0 ((b.map nB).take (min b.length 32 * 1)) = P.map nB := by
  unfold lov
  rw [List.take_zero, List.nil_append, Nat.mul_one, Nat.zero_add, List.length_take, List.length_map, Nat.min_eq_left (Nat.min_le_left _ _), hP, List.map_append, List.map_take, List.map_drop]
 rw [eP] at r4
 have hP32 : P.length = 32 := by rw [hP, List.length_append, List.length_take, List.length_drop, List.length_replicate]; omega
 have hPb : ∀ x ∈ P, x < 256 := fun x hx => by
  rw [hP] at hx
  rcases List.mem_append.1 hx with hx | hx
  ·exact hb2 x (List.mem_of_mem_take hx)
  ·rw [List.eq_of_mem_replicate (List.mem_of_mem_drop hx)]; decide
 have w4 := k4.wf w3
 have l4 := r4.all (n := 32) (by rw [List.length_map, hP32]) (by decide)
 refine run1 ?_
 refine Wo.st rfl rfl rfl rfl rfl rfl (by rw [List.length_map, hP32]) one_nB (r2.kp w3 k4 (by omega)) (by rw [List.length_map, List.length_replicate]; decide) fun s5 r5 n5 k5 => ?_
 rw [lov_all (by rw [List.length_map, List.length_map, hP32, List.length_replicate])] at r5
 refine run1 ?_
 have hcl := cell_at (B := B) (t := 23) rfl rfl r5 (by rw [List.length_map, hP32]) rfl
 refine Lv.ret (vs := [hsh P]) ?_ ⟨P, rfl, hP32, hPb, ((k1.call k13).app k4 (by omega)).app k5 (by omega)⟩
 show (match cell1 B.P (.pointer (some ⟨s1.nx, 0, none⟩)) 23 s5, some [] with | some v, some vs => some (v :: vs) | _, _ => none) = _
 rw [hcl]; rfl
structure Lc (s : St) (i : Nat) (t : St) (q : Option Addr) (c γ : Nat) (xs : List Ch) : Prop where
 kn : Kn s t
 len : xs.length = i
 gw : Gw t q i c 3 (xs.map chc).flatten γ
 st : (i = 0 ∧ q = none) ∨ (s.nx ≤ γ ∧ γ < t.nx)
 it : ∀ x ∈ xs, ChOk s x
set_option maxHeartbeats 1600000 in
theorem changesOf_ok (w0 : Wf s) (h : Im s (d + 3) cs) : Cl B (.call 46 [.agg ⟨cs⟩]) s fun v s' => ∃ Q xs C, v = .slice Q xs.length C ∧ RcOk s' Q xs ∧ Kn s s' := by
 refine Cl.enter Tryz.f46 fn46 rfl rfl rfl ?_
 refine run1 ?_
 refine mkO (cs := cs) fun s1 r1 n1 k1 => ?_
 have w1 : Wf s1 := k1.wf w0
 have gd : good (some ⟨s.nx, 0, none⟩) := good_b
 obtain ⟨g, q1, c1, m1, qi, ci, css, rfl, ha, hcl, hcs⟩ : ∃ (g : Bool) (q1 : Option Addr) (c1 m1 : Nat) (qi : Option Addr) (ci : Nat) (css : List (List Value)), cs = [.bool g, .slice q1 m1 c1, .slice qi css.length ci] ∧ At s qi css.flatten ∧ css.length ≤ 1048576 ∧ ∀ x ∈ css, x.length = 3 ∧ Im s (d + 2) x := by
  rcases h with ⟨q, c, b, rfl, _⟩ | ⟨q, c, css, rfl, h1, h2, h3⟩
  ·exact ⟨_, _, _, _, none, 0, [], rfl, .inl ⟨rfl, .inl rfl⟩, by decide, fun x hx => (List.not_mem_nil hx).elim⟩
  ·exact ⟨_, _, _, _, _, _, css, rfl, h1, h2, h3⟩
 have l2 : ldq s1 (qadd (some ⟨s.nx, 0, none⟩) 2) = some (.slice qi css.length ci) := r1.f1 rfl
 refine run1 ?_
 refine W.loop (α := Nat × Option Addr × Nat × St) (fun a => [(3, .slice a.2.1 a.1 a.2.2.1), (8, .slice qi css.length ci), (9, nI css.length), (10, nI a.1)]) (fun _ => []) (fun a => a.2.2.2)
  (fun y => y.1 ≤ css.length ∧ ∃ γ xs, Lc s y.1 y.2.2.2 y.2.1 y.2.2.1 γ xs) (fun a => css.length - a.1) (0, none, 0, s1) ⟨Nat.zero_le _, 0, [], k1, rfl, .nil, .inl ⟨rfl, rfl⟩, fun x hx => (List.not_mem_nil hx).elim⟩ (.cons rfl (.cons rfl (.cons rfl (.cons rfl .nil)))) rfl rfl (by show css.length - 0 < _; omega) ?_
 rintro ⟨i, q, cc, t⟩ ⟨i1, γ, xs, I⟩
 simp only at i1 I
 dsimp only
 have wt : Wf t := I.kn.wf w0
 have et := I.kn.le
 by_cases hi : i < css.length
 ·obtain ⟨x, hx⟩ : ∃ x, css[i]? = some x := ⟨css[i]'hi, List.getElem?_eq_getElem _⟩
  obtain ⟨gq, lx⟩ := kid (ha.kn w0 I.kn) (fun x hx => (hcs x hx).1) hx
  have hI := (hcs x (List.mem_of_getElem? hx)).2
  have hx3 := hI.len
  refine run1 ?_
  refine mkO (cs := z3) fun t1 p1 m1 g1 => ?_
  have wt1 : Wf t1 := g1.wf wt
  obtain ⟨gg, u1, uc, um, u4, uc2, kss, rfl, hka, hkl, hks⟩ : ∃ (g : Bool) (q1 : Option Addr) (c1 m1 : Nat) (qi : Option Addr) (ci : Nat) (css : List (List Value)), x = [.bool g, .slice q1 m1 c1, .slice qi css.length ci] ∧ At s qi css.flatten ∧ css.length ≤ 1048576 ∧ ∀ x ∈ css, x.length = 3 ∧ Im s (d + 1) x := by
   rcases hI with ⟨q, c, b, rfl, _⟩ | ⟨q, c, css, rfl, h1, h2, h3⟩
   ·exact ⟨_, _, _, _, none, 0, [], rfl, .inl ⟨rfl, .inl rfl⟩, by decide, fun x hx => (List.not_mem_nil hx).elim⟩
   ·exact ⟨_, _, _, _, _, _, css, rfl, h1, h2, h3⟩
  refine Wo.st rfl rfl rfl rfl rfl rfl hx3.1 hx3.2 p1 (by decide) fun t2 p2 m2 g2 => ?_
  have p2 : Rw t2 t.nx [.bool gg, .slice u1 um uc, .slice u4 kss.length uc2] t.nx := p2
  have wt2 := g2.wf wt1
  obtain ⟨b5, hb5⟩ : ∃ b, b = t.nx := ⟨_, rfl⟩
  rw [← hb5] at p2 ⊢
  have g5 : good (some ⟨b5, 0, none⟩) := good_b
  have l52 : ldq t2 (qadd (some ⟨b5, 0, none⟩) 2) = some (.slice u4 kss.length uc2) := p2.f1 rfl
  refine run1 ?_
  obtain ⟨gz, hgz⟩ : ∃ g, g = decide (kss.length = 1) := ⟨_, rfl⟩
  rw [← hgz]
  refine Wo.val rfl (Xv.buildE (cs := [.slice none 0 0, .slice none 0 0, .bool gz]) rfl (fill_cons (vs := [.bool gz]) rfl rfl (by cases gz <;> rfl) rfl (oo1 rfl) (by decide) rfl)) rfl (run1 ?_)
  refine mkO (cs := [.slice none 0 0, .slice none 0 0, .bool false]) fun t3 p3 m3 g3 => ?_
  have wt3 := g3.wf wt2
  refine Wo.st rfl rfl rfl rfl rfl rfl rfl (by intro v hv; simp at hv; rcases hv with rfl | rfl | rfl <;> rfl) p3 (by decide) fun t4 p4 m4 g4 => ?_
  have p4 : Rw t4 t2.nx [.slice none 0 0, .slice none 0 0, .bool gz] t2.nx := p4
  have wt4 := g4.wf wt3
  obtain ⟨b6, hb6⟩ : ∃ b, b = t2.nx := ⟨_, rfl⟩
  rw [← hb6] at p4 ⊢
  have g6 : good (some ⟨b6, 0, none⟩) := good_b
  have e2 : t.nx ≤ t2.nx := by have := g1.le; have := g2.le; omega
  have Kt2 : Kn t t2 := g1.app g2 (by omega)
  have Kt4 : Kn t t4 := (Kt2.call g3).app g4 (by omega)
  have p54 : Rw t4 b5 [.bool gg, .slice u1 um uc, .slice u4 kss.length uc2] b5 := (p2.kp wt2 g3 id).kp wt3 g4 (by omega)
  have l54 : ldq t4 (qadd (some ⟨b5, 0, none⟩) 2) = some (.slice u4 kss.length uc2) := p54.f1 rfl
  refine run1 ?_
  refine W.meet (α := St × Value × List Nat) (fun a => [(3, .slice q i cc), (8, .slice qi css.length ci), (9, nI css.length), (10, nI i), (5, .pointer (some ⟨b5, 0, none⟩)), (6, .pointer (some ⟨b6, 0, none⟩))]) (fun a => a.1)
   (fun a => Kn t a.1 ∧ t4.nx = a.1.nx ∧ Rw a.1 b5 [.bool gg, .slice u1 um uc, .slice u4 kss.length uc2] b5 ∧ Rw a.1 b6 [a.2.1, .slice none 0 0, .bool gz] b6 ∧ BsV s a.2.1 a.2.2 ∧ ∀ y ∈ a.2.2, y < 256) ?_ ?_
  ·by_cases hk : 0 < kss.length
   ·obtain ⟨y, hy⟩ : ∃ y, kss[0]? = some y := ⟨kss[0]'hk, List.getElem?_eq_getElem _⟩
    obtain ⟨gqk, -⟩ := kid (hka.kn w0 (I.kn.call Kt4)) (fun x hx => (hks x hx).1) hy
    obtain ⟨yg, yq, yc, yb, yq', yn, yc', rfl, ya, yl, yB⟩ := (hks y (List.mem_of_getElem? hy)).2.bytes
    have lk : ldq t4 (qadd (qadd u4 (0 * 3)) 1) = some (.slice yq yb.length yc) := kid_ld (hka.kn w0 (I.kn.call Kt4)) (fun x hx => (hks x hx).1) hy rfl
    refine run1 ?_
    refine Wo.st rfl rfl rfl rfl rfl rfl rfl (oo1 rfl) p4 (show 0 + 0 + 1 ≤ 3 by decide) fun t5 p5 m5 g5 => ?_
    have p5 : Rw t5 b6 [.slice yq yb.length yc, .slice none 0 0, .bool gz] b6 := p5
    refine run1 ?_
    exact meet.n (t5, .slice yq yb.length yc, yb) ⟨Kt4.app g5 (by omega), m5.symm, p54.kp wt4 g5 (by omega), p5, ⟨yq, yc, rfl, ya, Nat.lt_of_le_of_lt yl (by decide)⟩, yB⟩ (.cons rfl (.cons rfl (.cons rfl (.cons rfl (.cons rfl (.cons rfl .nil)))))) rfl
   ·refine run1 ?_
    exact meet.n (t4, .slice none 0 0, []) ⟨Kt4, rfl, p54, p4, ⟨none, 0, rfl, .inl ⟨rfl, .inl rfl⟩, show 0 < 2 ^ 60 by decide⟩, fun y hy => (List.not_mem_nil hy).elim⟩ (.cons rfl (.cons rfl (.cons rfl (.cons rfl (.cons rfl (.cons rfl .nil)))))) rfl
  ·rintro ⟨t5, kv, K⟩ ⟨kt5, n45, p55, p65, hkv, hkb⟩
   simp only at kt5 n45 p55 p65 hkv hkb
   dsimp only
   have wt5 := kt5.wf wt
   have l55 : ldq t5 (qadd (some ⟨b5, 0, none⟩) 2) = some (.slice u4 kss.length uc2) := p55.f1 rfl
   refine run1 ?_
   refine W.meet (α := St × Value × List Nat) (fun a => [(3, .slice q i cc), (8, .slice qi css.length ci), (9, nI css.length), (10, nI i), (6, .pointer (some ⟨b6, 0, none⟩))]) (fun a => a.1)
    (fun a => Kn t a.1 ∧ t4.nx = a.1.nx ∧ Rw a.1 b6 [kv, a.2.1, .bool gz] b6 ∧ BsV s a.2.1 a.2.2 ∧ ∀ y ∈ a.2.2, y < 256) ?_ ?_
   ·by_cases hk : 1 < kss.length
    ·obtain ⟨y, hy⟩ : ∃ y, kss[1]? = some y := ⟨kss[1]'hk, List.getElem?_eq_getElem _⟩
     obtain ⟨gqk, -⟩ := kid (hka.kn w0 (I.kn.call kt5)) (fun x hx => (hks x hx).1) hy
     obtain ⟨yg, yq, yc, yb, yq', yn, yc', rfl, ya, yl, yB⟩ := (hks y (List.mem_of_getElem? hy)).2.bytes
     have lk : ldq t5 (qadd (qadd u4 (1 * 3)) 1) = some (.slice yq yb.length yc) := kid_ld (hka.kn w0 (I.kn.call kt5)) (fun x hx => (hks x hx).1) hy rfl
     refine run1 ?_
     refine Wo.st rfl rfl rfl rfl rfl rfl rfl (oo1 rfl) p65 (show 0 + 1 + 1 ≤ 3 by decide) fun t6 p6 m6 g6 => ?_
     have p6 : Rw t6 b6 [kv, .slice yq yb.length yc, .bool gz] b6 := p6
     refine run1 ?_
     exact meet.n (t6, .slice yq yb.length yc, yb) ⟨kt5.app g6 (by omega), n45.trans m6.symm, p6, ⟨yq, yc, rfl, ya, Nat.lt_of_le_of_lt yl (by decide)⟩, yB⟩ (.cons rfl (.cons rfl (.cons rfl (.cons rfl (.cons rfl .nil))))) rfl
    ·refine run1 ?_
     exact meet.n (t5, .slice none 0 0, []) ⟨kt5, n45, p65, ⟨none, 0, rfl, .inl ⟨rfl, .inl rfl⟩, show 0 < 2 ^ 60 by decide⟩, fun y hy => (List.not_mem_nil hy).elim⟩ (.cons rfl (.cons rfl (.cons rfl (.cons rfl (.cons rfl .nil))))) rfl
   ·rintro ⟨t6, vv, V⟩ ⟨kt6, n46, p66, hvv, hvb⟩
    simp only at kt6 n46 p66 hvv hvb
    dsimp only
    have wt6 := kt6.wf wt
    obtain ⟨x, hx⟩ : ∃ x : Ch, x = ⟨kv, vv, K, V, gz⟩ := ⟨_, rfl⟩
    have hok : ChOk s x := by subst hx; exact ⟨hkv, hvv, hkb, hvb⟩
    have hone := hok.one
    obtain ⟨qk, ck, ek, _⟩ := hkv
    obtain ⟨qv, cv, ev1, _⟩ := hvv
    have hch : chc x = [.slice qk K.length ck, .slice qv V.length cv, .bool gz] := by subst hx ek ev1; rfl
    rw [ek, ev1] at p66
    rw [hch] at hone
    have l6 := p66.all (n := 3) rfl (by decide)
    refine run1 ?_
    refine mkO (cs := [.slice qk K.length ck, .slice qv V.length cv, .bool gz]) fun t7 p7 m7 g7 => ?_
    have wt7 := g7.wf wt6
    have Kt7 : Kn t t7 := kt6.call g7
    have e7 := Kt7.le
    have hb6t := (p66.lt wt6).1
    obtain ⟨γ0, hgw, hγt, hγs⟩ : ∃ γ0, Gw t7 q i cc 3 (xs.map chc).flatten γ0 ∧ γ0 < t7.nx ∧ s.nx ≤ γ0 := by
     rcases I.st with ⟨rfl, rfl⟩ | ⟨c1, c2⟩
     ·have hc0 : cc = 0 := by
       rcases I.gw.at' with ⟨_, _, h⟩ | ⟨_, _, h, _⟩
       ·exact h
       ·cases h
      have hxs : xs = [] := List.eq_nil_of_length_eq_zero I.len
      subst hc0 hxs
      exact ⟨b6, .nil, by omega, by omega⟩
     ·exact ⟨γ, I.gw.kp wt Kt7 id, by omega, c1⟩
    refine Wo.app rfl rfl rfl rfl rfl rfl rfl rfl rfl wt7 hgw rfl (cells_at (k := 1) (size := 3) p7.ats rfl (by decide)) rfl hone rfl (by omega) (by omega) ?_
    intro qn cn γn ta a1 a2 a3
    have wta := a2.wf wt7
    have ea := a2.le
    have hγa : γn < ta.nx := by
     refine a1.ltq wta ?_
     rintro rfl
     rcases a1.at' with ⟨_, h, _⟩ | ⟨_, _, h, _⟩ <;> cases h
    refine run1 ?_
    refine rnd.n (i + 1, qn, cn, ta) ⟨hi, γn, xs ++ [x], (I.kn.call Kt7).app a2 hγs, by rw [List.length_append, I.len]; rfl, ?_, .inr ⟨by show s.nx ≤ γn; rcases a3 with h | ⟨h, _⟩ <;> omega, hγa⟩, fun y hy => ?_⟩ (by show css.length - (i + 1) < css.length - i; omega) (.cons rfl (.cons rfl (.cons rfl (.cons rfl .nil)))) rfl rfl
    ·show Gw ta qn (i + 1) cn 3 ((xs ++ [x]).map chc).flatten γn
     rw [List.map_append, List.flatten_append, show ([x].map chc).flatten = chc x by simp, hch]
     exact a1
    ·rcases List.mem_append.1 hy with hy | hy
     ·exact I.it y hy
     ·rw [List.mem_singleton.1 hy]; exact hok
 ·have hie : i = css.length := by omega
  refine run1 ?_
  refine Lv.ret rfl ⟨q, xs, cc, ?_, ⟨I.gw.sl.at, fun x hx => (I.it x hx).kn w0 I.kn, by rw [I.len]; omega⟩, I.kn⟩
  rw [I.len]; rfl
end Go.Proofs.YtcnhinnpieehoaaGreatDoor
