import Derived.Test.YtglilbadldocoaaGreatDoorAczz
import Derived.Test.YtglilbadldocoaaGreatDoorJtzz
namespace Go.Proofs.YtglilbadldocoaaGreatDoor
open Go Go.Ev Go.Sy
set_option maxRecDepth 100000
variable {s s0 : St} {p γ δ n c m N d : Nat} {q : Option Addr} {A D F : List Nat} {L cs : List Value}
theorem Ix.byt {b : List Nat} (h : Ix s (d + 1) (.mk false b []) cs) : ∃ q c, cs = [.bool false, .slice q b.length c, .slice none 0 0] ∧ At s q (b.map nB) ∧ b.length ≤ 1048576 ∧ ∀ x ∈ b, x < 256 := by
 rcases h with ⟨q, c, b', e, h⟩ | ⟨_, _, _, e, _⟩
 ·cases e; exact ⟨q, c, h⟩
 ·cases e
def BvK (s : St) (C : Nat → Prop) (v : Value) (A : List Nat) : Prop := ∀ s', Kp (fun c => C c ∨ s.nx ≤ c) s s' → BsV s' v A
def ChK (s : St) (C : Nat → Prop) (x : Ch) : Prop := ∀ s', Kp (fun c => C c ∨ s.nx ≤ c) s s' → ChOk s' x
theorem IxK.byt {C : Nat → Prop} {b : List Nat} (w : Wf s) (h : IxK s C (d + 1) (.mk false b []) cs) : ∃ q c, cs = [.bool false, .slice q b.length c, .slice none 0 0] ∧ BvK s C (.slice q b.length c) b ∧ b.length ≤ 1048576 ∧ ∀ x ∈ b, x < 256 := by
 rcases h with ⟨q, c, b', γ, e, h1, h2, h3, h4, h5, h6⟩ | ⟨_, _, _, _, e, _⟩
 ·cases e
  exact ⟨q, c, h1, fun s' k => ⟨q, c, rfl, (h2.kp w k (fun h => h.elim h3 (by omega))).at, Nat.lt_of_le_of_lt h5 (by decide)⟩, h5, h6⟩
 ·cases e
def chI (y : List Nat × List Nat × Bool) : Nz.It := .mk true [] (.mk false y.1 [] :: if y.2.2 then [] else [.mk false y.2.1 []])
theorem IxK.kids {C : Nat → Prop} {ys : List (List Nat × List Nat × Bool)} (h : IxK s C (d + 3) (.mk true [] (ys.map chI)) cs) : ∃ (qi : Option Addr) (ci : Nat) (css : List (List Value)), cs = [.bool true, .slice none 0 0, .slice qi css.length ci] ∧ At s qi css.flatten ∧ css.length ≤ 1048576 ∧ (∀ x ∈ css, x.length = 3 ∧ Im s (d + 2) x) ∧ (∀ (i : Nat) x, css[i]? = some x → ∃ y, ys[i]? = some y ∧ IxK s C (d + 2) (chI y) x) ∧ css.length = ys.length := by
 rcases h with ⟨_, _, _, _, e, _⟩ | ⟨q, c, ps, _, e, rfl, h1, _, _, h2, h3⟩
 ·cases e
 ·have e : ys.map chI = ps.map Prod.fst := by injection e
  have el : ps.length = ys.length := by have := congrArg List.length e; rw [List.length_map, List.length_map] at this; omega
  refine ⟨q, c, ps.map Prod.snd, by rw [List.length_map], h1.at, by rw [List.length_map]; exact h2, fun x hx => ?_, fun i x hx => ?_, by rw [List.length_map, el]⟩
  ·obtain ⟨p, hp, rfl⟩ := List.mem_map.1 hx
   exact ⟨(h3 p hp).1, (h3 p hp).2.ix.im⟩
  ·rw [List.getElem?_map] at hx
   cases hp : ps[i]? with
   | none => rw [hp] at hx; cases hx
   | some p =>
    rw [hp] at hx
    cases hx
    have hi : i < ys.length := by rw [← el]; exact (List.getElem?_eq_some_iff.1 hp).1
    refine ⟨ys[i], List.getElem?_eq_getElem hi, ?_⟩
    have : (ys.map chI)[i]? = (ps.map Prod.fst)[i]? := by rw [e]
    rw [List.getElem?_map, List.getElem?_map, hp, List.getElem?_eq_getElem hi] at this
    have this : chI ys[i] = p.1 := Option.some.inj this
    rw [this]
    exact (h3 p (List.mem_of_getElem? hp)).2
theorem IxK.kids1 {C : Nat → Prop} {y : List Nat × List Nat × Bool} (h : IxK s C (d + 2) (chI y) cs) : ∃ (qi : Option Addr) (ci : Nat) (css : List (List Value)), cs = [.bool true, .slice none 0 0, .slice qi css.length ci] ∧ At s qi css.flatten ∧ css.length ≤ 1048576 ∧ (∀ x ∈ css, x.length = 3 ∧ Im s (d + 1) x) ∧ (∀ x, (css[0]? = some x → IxK s C (d + 1) (.mk false y.1 []) x) ∧ (css[1]? = some x → IxK s C (d + 1) (.mk false y.2.1 []) x)) ∧ css.length = cond y.2.2 1 2 := by
 rcases h with ⟨_, _, _, _, e, _⟩ | ⟨q, c, ps, _, e, rfl, h1', _, _, h2, h3⟩
 ·cases e
 ·have h1 := h1'.at
  clear h1'
  have e : (.mk false y.1 [] :: if y.2.2 then [] else [.mk false y.2.1 []] : List Nz.It) = ps.map Prod.fst := by unfold chI at e; injection e
  have hm : ∀ x ∈ ps.map Prod.snd, x.length = 3 ∧ Im s (d + 1) x := fun x hx => by
   obtain ⟨p, hp, rfl⟩ := List.mem_map.1 hx
   exact ⟨(h3 p hp).1, (h3 p hp).2.ix.im⟩
  obtain ⟨k, v, g⟩ := y
  cases g with
  | true =>
   have e : [Nz.It.mk false k []] = ps.map Prod.fst := e
   have hl : ps.length = 1 := by have := congrArg List.length e; rw [List.length_map] at this; exact this.symm
   obtain ⟨p, rfl⟩ := List.length_eq_one_iff.1 hl
   have e : Nz.It.mk false k [] = p.1 := by injection e
   refine ⟨q, c, [p.2], rfl, h1, h2, hm, fun x => ⟨fun hx => ?_, (fun hx => by cases hx)⟩, rfl⟩
   cases hx
   show IxK s C (d + 1) (.mk false k []) p.2
   rw [e]; exact (h3 p List.mem_cons_self).2
  | false =>
   have e : [Nz.It.mk false k [], .mk false v []] = ps.map Prod.fst := e
   have hl : ps.length = 2 := by have := congrArg List.length e; rw [List.length_map] at this; exact this.symm
   obtain ⟨p, p', rfl⟩ : ∃ p p', ps = [p, p'] := by
    clear e h1 h2 h3 hm
    match ps, hl with
    | [p, p'], _ => exact ⟨p, p', rfl⟩
   ·have e1 : Nz.It.mk false k [] = p.1 := by injection e
    have e2 : Nz.It.mk false v [] = p'.1 := by injection e with _ e; injection e
    refine ⟨q, c, [p.2, p'.2], rfl, h1, h2, hm, fun x => ⟨fun hx => ?_, fun hx => ?_⟩, rfl⟩
    ·cases hx
     show IxK s C (d + 1) (.mk false k []) p.2
     rw [e1]; exact (h3 p List.mem_cons_self).2
    ·cases hx
     show IxK s C (d + 1) (.mk false v []) p'.2
     rw [e2]; exact (h3 p' (List.mem_cons_of_mem _ List.mem_cons_self)).2
theorem int_ex {b : List Nat} (w0 : Wf s) (h : Ix s (d + 1) (.mk false b []) cs) (h8 : b.length ≤ 8) (hz : 0 < b.length → b.getD 0 0 ≠ 0) (hm : Nz.num b < 9223372036854775808) : Cl B (.call 102 [.agg ⟨cs⟩]) s fun v s' => v = .tuple ⟨[nI (Nz.num b), nI 0]⟩ ∧ Kn s s' := by
 refine Cl.enter Tryz.f102 fn102 rfl rfl rfl ?_
 refine run1 ?_
 refine mkO (cs := cs) fun s1 r1 n1 k1 => ?_
 have w1 : Wf s1 := k1.wf w0
 have gd : good (some ⟨s.nx, 0, none⟩) := good_b
 have h01 : ¬ 0 < 0 := by decide
 obtain ⟨q, c, rfl, h1, h2, h3⟩ := h.byt
 have l0 : ldq s1 (qadd (some ⟨s.nx, 0, none⟩) 0) = some (.bool false) := r1.f1 rfl
 have l1 : ldq s1 (qadd (some ⟨s.nx, 0, none⟩) 1) = some (.slice q b.length c) := r1.f1 rfl
 have l2 : ldq s1 (qadd (some ⟨s.nx, 0, none⟩) 2) = some (.slice none 0 0) := r1.f1 rfl
 have hB : Bs s1 q b := h1.kn w0 k1
 have h8 : ¬ 8 < b.length := by omega
 have hm' : ¬ 9223372036854775807 < Nz.num b := by omega
 by_cases hp : 0 < b.length
 ·have hz := hz hp
  refine run1 ?_
  refine Wo.call rfl (Xc.call ok125 rfl) rfl ((num_ok hB h3 (by omega)).mono ?_)
  rintro v s' ⟨rfl, e'⟩; rw [e']; clear e' s'
  refine run1 ?_
  refine Wo.val rfl (Xv.cv rfl rfl rfl (wrapI (by omega))) rfl (run1 ?_)
  exact Lv.ret rfl ⟨rfl, k1⟩
 ·refine run1 ?_
  refine Wo.call rfl (Xc.call ok125 rfl) rfl ((num_ok hB h3 (by omega)).mono ?_)
  rintro v s' ⟨rfl, e'⟩; rw [e']; clear e' s'
  refine run1 ?_
  refine Wo.val rfl (Xv.cv rfl rfl rfl (wrapI (by omega))) rfl (run1 ?_)
  exact Lv.ret rfl ⟨rfl, k1⟩
theorem Ix.kpN (w : Wf s0) (k : Kp (fun c => s0.nx ≤ c) s0 s) : ∀ {d : Nat} {x : Nz.It} {cs : List Value}, Ix s0 d x cs → Ix s d x cs
 | 0, _, _, h => absurd h id
 | d + 1, x, cs, h => by
  rcases h with ⟨q, c, b, e0, e, h1, h2, h3⟩ | ⟨q, c, css, e0, e, h1, h2, h3⟩
  ·exact .inl ⟨q, c, b, e0, e, At.kpN h1 w k, h2, h3⟩
  ·exact .inr ⟨q, c, css, e0, e, At.kpN h1 w k, h2, fun x hx => ⟨(h3 x hx).1, Ix.kpN w k (h3 x hx).2⟩⟩
theorem Ix.kn {s' : St} {x : Nz.It} (h : Ix s d x cs) (w : Wf s) (k : Kn s s') : Ix s' d x cs := Ix.kpN w (k.w) h
theorem jnum_ex {b : List Nat} (w0 : Wf s) (h : Ix s (d + 1) (.mk false b []) cs) (h8 : b.length ≤ 8) (hz : 0 < b.length → b.getD 0 0 ≠ 0) (hm : Nz.num b < 9223372036854775808) : Cl B (.call 64 [.agg ⟨cs⟩]) s fun v s' => v = nI (Nz.num b) ∧ Kn s s' := by
 have h3 := h.im.len
 refine Cl.enter Tryz.f64 fn64 rfl rfl rfl ?_
 refine run1 ?_
 refine mkO (cs := cs) fun s1 r1 n1 k1 => ?_
 have w1 : Wf s1 := k1.wf w0
 have l1 := r1.all (n := 3) h3.1 (by decide)
 refine run1 ?_
 refine Wo.call rfl (Xc.call ok102 rfl) rfl ((int_ex w1 (h.kn w0 k1) h8 hz hm).mono ?_)
 rintro v s2 ⟨rfl, k2⟩
 refine run1 ?_
 exact Lv.ret rfl ⟨rfl, k1.call k2⟩
theorem hashOf_ex {b : List Nat} (w0 : Wf s) (h : Ix s (d + 1) (.mk false b []) cs) (hb32 : b.length = 32) : Cl B (.call 65 [.agg ⟨cs⟩]) s fun v s' => v = hsh b ∧ Kn s s' := by
 obtain ⟨q, c, rfl, hq, hb1, hb2⟩ := h.byt
 refine Cl.enter Tryz.f65 fn65 rfl rfl rfl ?_
 refine run1 ?_
 generalize hs1 : mkRow s [.bool false, .slice q b.length c, .slice none 0 0] = s1
 have r1 : Rw s1 s.nx [.bool false, .slice q b.length c, .slice none 0 0] s.nx := hs1 ▸ mkRow_rw
 have k1 : Kn s s1 := hs1 ▸ mkRow_kn
 have n1 : s1.nx = s.nx + 1 := hs1 ▸ rfl
 have w1 := k1.wf w0
 obtain ⟨Z, hZ⟩ : ∃ Z : List Nat, Z = List.replicate 32 0 := ⟨_, rfl⟩
 refine mk_gen (s := mkRow s1 ((List.replicate 32 0).map nB)) (cs := (List.replicate 32 0).map nB) (M := fun s' => W _ _ _ _ s' _) fun s3 r3 n3 k3 => ?_
 have r2 : Rw s3 s1.nx ((List.replicate 32 0).map nB) s1.nx := mkRow_rw.kp (mkRow_wf w1) k3 id
 have k13 : Kn s1 s3 := mkRow_kn.call k3
 have hn2 : (mkRow s1 ((List.replicate 32 0).map nB)).nx = s1.nx + 1 := rfl
 rw [hn2] at r3 n3
 have w3 := k13.wf w1
 have gd : good (some ⟨s.nx, 0, none⟩) := good_b
 have l1 : ldq s3 (qadd (some ⟨s.nx, 0, none⟩) 1) = some (.slice q b.length c) := (r1.kp w1 k13 id).f1 rfl
 refine W.dr [(0, .none, 0), (1, .none, 0), (2, .reads, 2), (3, .acts, 7)] (by kernel_rfl) rfl (run1 ?_)
 refine Wd.val rfl (Xv.slP (b := s1.nx + 1) (o := 0) rfl rfl rfl (by decide)).1 rfl (Nat.le_refl _) (run1 ?_)
 refine Wd.cpy rfl rfl rfl rfl rfl rfl rfl r3 (hq.kn w0 (k1.call k13)) (by rw [List.length_map, Nat.mul_one]) one_nB (by rw [List.length_map, List.length_replicate]; decide) fun s4 r4 n4 k4 => ?_
 obtain ⟨P, hP⟩ : ∃ P, P = b.take (min b.length 32) ++ (List.replicate 32 0).drop (min b.length 32) := ⟨_, rfl⟩
 have eP : lov ((List.replicate 32 0).map nB) 0 ((b.map nB).take (min b.length 32 * 1)) = P.map nB := by
  unfold lov
  rw [List.take_zero, List.nil_append, Nat.mul_one, Nat.zero_add, List.length_take, List.length_map, Nat.min_eq_left (Nat.min_le_left _ _), hP, List.map_append, List.map_take, List.map_drop]
 rw [eP] at r4
 have hP32 : P.length = 32 := by rw [hP, List.length_append, List.length_take, List.length_drop, List.length_replicate]; omega
 have w4 := k4.wf w3
 have l4 := r4.all (n := 32) (by rw [List.length_map, hP32]) (by decide)
 refine run1 ?_
 refine Wo.st rfl rfl rfl rfl rfl rfl (by rw [List.length_map, hP32]) one_nB (r2.kp w3 k4 (by omega)) (by rw [List.length_map, List.length_replicate]; decide) fun s5 r5 n5 k5 => ?_
 rw [lov_all (by rw [List.length_map, List.length_map, hP32, List.length_replicate])] at r5
 refine run1 ?_
 have hcl := cell_at (B := B) (t := 32) rfl rfl r5 (by rw [List.length_map, hP32]) rfl
 refine Lv.ret (vs := [hsh P]) ?_ ⟨?_, ((k1.call k13).app k4 (by omega)).app k5 (by omega)⟩
 rotate_left
 ·show hsh P = hsh b
  rw [hP, hb32, Nat.min_self, List.take_of_length_le (by omega), List.drop_of_length_le (by rw [List.length_replicate]; exact Nat.le_refl _), List.append_nil]
 show (match cell1 B.P (.pointer (some ⟨s1.nx, 0, none⟩)) 32 s5, some [] with | some v, some vs => some (v :: vs) | _, _ => none) = _
 rw [hcl]; rfl
structure LcK (s : St) (C : Nat → Prop) (i : Nat) (t : St) (q : Option Addr) (c γ : Nat) (xs : List Ch) : Prop where
 kn : Kn s t
 len : xs.length = i
 gw : Gw t q i c 3 (xs.map chc).flatten γ
 st : (i = 0 ∧ q = none) ∨ (s.nx ≤ γ ∧ γ < t.nx)
 it : ∀ x ∈ xs, ChK s C x
set_option maxHeartbeats 1600000 in
theorem changesOf_ex {ys : List (List Nat × List Nat × Bool)} {C : Nat → Prop} (w0 : Wf s) (h : IxK s C (d + 3) (.mk true [] (ys.map chI)) cs) (hC : ∀ c, C c → c < s.nx) (hgo : ∀ y ∈ ys, y.2.2 = true → y.2.1 = []) : Cl B (.call 66 [.agg ⟨cs⟩]) s fun v s' => ∃ Q xs r, v = .slice Q xs.length r ∧ (∀ t, Kp (fun c => C c ∨ s'.nx ≤ c) s' t → RcOk t Q xs) ∧ xs.map cv = ys ∧ Kn s s' := by
 refine Cl.enter Tryz.f66 fn66 rfl rfl rfl ?_
 refine run1 ?_
 refine mkO (cs := cs) fun s1 r1 n1 k1 => ?_
 have w1 : Wf s1 := k1.wf w0
 have gd : good (some ⟨s.nx, 0, none⟩) := good_b
 obtain ⟨qi, ci, css, rfl, ha, hcl, hcs, hel, hyl⟩ := h.kids
 have l2 : ldq s1 (qadd (some ⟨s.nx, 0, none⟩) 2) = some (.slice qi css.length ci) := r1.f1 rfl
 refine run1 ?_
 refine W.loop (α := Nat × Option Addr × Nat × St) (fun a => [(3, .slice a.2.1 a.1 a.2.2.1), (8, .slice qi css.length ci), (9, nI css.length), (10, nI a.1)]) (fun _ => []) (fun a => a.2.2.2)
  (fun y => y.1 ≤ css.length ∧ ∃ γ xs, LcK s C y.1 y.2.2.2 y.2.1 y.2.2.1 γ xs ∧ xs.map cv = ys.take y.1) (fun a => css.length - a.1) (0, none, 0, s1) ⟨Nat.zero_le _, 0, [], ⟨k1, rfl, .nil, .inl ⟨rfl, rfl⟩, fun x hx => (List.not_mem_nil hx).elim⟩, rfl⟩ (.cons rfl (.cons rfl (.cons rfl (.cons rfl .nil)))) rfl rfl (by show css.length - 0 < _; omega) ?_
 rintro ⟨i, q, cc, t⟩ ⟨i1, γ, xs, I, I2⟩
 simp only at i1 I I2
 dsimp only
 have wt : Wf t := I.kn.wf w0
 have et := I.kn.le
 by_cases hi : i < css.length
 ·obtain ⟨x, hx⟩ : ∃ x, css[i]? = some x := ⟨css[i]'hi, List.getElem?_eq_getElem _⟩
  obtain ⟨gq, lx⟩ := kid (ha.kn w0 I.kn) (fun x hx => (hcs x hx).1) hx
  obtain ⟨yy, hyy, hIx⟩ := hel i x hx
  have hI := hIx.ix.im
  have hx3 := hI.len
  refine run1 ?_
  refine mkO (cs := z3) fun t1 p1 m1 g1 => ?_
  have wt1 : Wf t1 := g1.wf wt
  obtain ⟨u4, uc2, kss, rfl, hka, hkl, hks, hke, hkn⟩ := hIx.kids1
  refine Wo.st rfl rfl rfl rfl rfl rfl hx3.1 hx3.2 p1 (by decide) fun t2 p2 m2 g2 => ?_
  have p2 : Rw t2 t.nx [.bool true, .slice none 0 0, .slice u4 kss.length uc2] t.nx := p2
  have wt2 := g2.wf wt1
  obtain ⟨b5, hb5⟩ : ∃ b, b = t.nx := ⟨_, rfl⟩
  rw [← hb5] at p2 ⊢
  have g5 : good (some ⟨b5, 0, none⟩) := good_b
  have l52 : ldq t2 (qadd (some ⟨b5, 0, none⟩) 2) = some (.slice u4 kss.length uc2) := p2.f1 rfl
  refine run1 ?_
  obtain ⟨gz, hgz⟩ : ∃ g, g = decide (kss.length = 1) := ⟨_, rfl⟩
  have hgy : gz = yy.2.2 := by rw [hgz, hkn]; cases yy.2.2 <;> rfl
  rw [← hgz]
  refine Wo.val rfl (Xv.buildE (cs := [.slice none 0 0, .slice none 0 0, .bool gz]) rfl (fill_cons (vs := [.bool gz]) rfl rfl (by cases gz <;> rfl) rfl (by intro v hv; rw [List.mem_singleton] at hv; rw [hv]; rfl) (by decide) rfl)) rfl (run1 ?_)
  refine mkO (cs := [.slice none 0 0, .slice none 0 0, .bool false]) fun t3 p3 m3 g3 => ?_
  have wt3 := g3.wf wt2
  refine Wo.st rfl rfl rfl rfl rfl rfl rfl (by intro v hv; simp at hv; rcases hv with rfl | rfl | rfl <;> rfl) p3 (by decide) fun t4 p4 m4 g4 => ?_
  have p4 : Rw t4 t2.nx [.slice none 0 0, .slice none 0 0, .bool gz] t2.nx := p4
  have wt4 := g4.wf wt3
  obtain ⟨b6, hb6⟩ : ∃ b, b = t2.nx := ⟨_, rfl⟩
  rw [← hb6] at p4 ⊢
  have g6 : good (some ⟨b6, 0, none⟩) := good_b
  have e2 : t.nx ≤ t2.nx := by have := g1.le; have := g2.le; omega
  have Kt2 : Kn t t2 := g1.app g2 (by omega)
  have Kt4 : Kn t t4 := (Kt2.call g3).app g4 (by omega)
  have p54 : Rw t4 b5 [.bool true, .slice none 0 0, .slice u4 kss.length uc2] b5 := (p2.kp wt2 g3 id).kp wt3 g4 (by omega)
  have l54 : ldq t4 (qadd (some ⟨b5, 0, none⟩) 2) = some (.slice u4 kss.length uc2) := p54.f1 rfl
  refine run1 ?_
  refine W.meet (α := St × Value × List Nat) (fun a => [(3, .slice q i cc), (8, .slice qi css.length ci), (9, nI css.length), (10, nI i), (5, .pointer (some ⟨b5, 0, none⟩)), (6, .pointer (some ⟨b6, 0, none⟩))]) (fun a => a.1)
   (fun a => Kn t a.1 ∧ t4.nx = a.1.nx ∧ Rw a.1 b5 [.bool true, .slice none 0 0, .slice u4 kss.length uc2] b5 ∧ Rw a.1 b6 [a.2.1, .slice none 0 0, .bool gz] b6 ∧ BvK s C a.2.1 a.2.2 ∧ (∀ y ∈ a.2.2, y < 256) ∧ a.2.2 = yy.1) ?_ ?_
  ·by_cases hk : 0 < kss.length
   ·obtain ⟨y, hy⟩ : ∃ y, kss[0]? = some y := ⟨kss[0]'hk, List.getElem?_eq_getElem _⟩
    obtain ⟨gqk, -⟩ := kid (hka.kn w0 (I.kn.call Kt4)) (fun x hx => (hks x hx).1) hy
    obtain ⟨yb, yb', hyb⟩ : ∃ b, b = yy.1 ∧ IxK s C (d + 1) (.mk false b []) y := ⟨_, rfl, (hke y).1 hy⟩
    obtain ⟨yq, yc, rfl, ya, yl, yB⟩ := hyb.byt w0
    have lk : ldq t4 (qadd (qadd u4 (0 * 3)) 1) = some (.slice yq yb.length yc) := kid_ld (hka.kn w0 (I.kn.call Kt4)) (fun x hx => (hks x hx).1) hy rfl
    refine run1 ?_
    refine Wo.st rfl rfl rfl rfl rfl rfl rfl (by intro v hv; rw [List.mem_singleton] at hv; rw [hv]; rfl) p4 (show 0 + 0 + 1 ≤ 3 by decide) fun t5 p5 m5 g5 => ?_
    have p5 : Rw t5 b6 [.slice yq yb.length yc, .slice none 0 0, .bool gz] b6 := p5
    refine run1 ?_
    exact meet.n (t5, .slice yq yb.length yc, yb) ⟨Kt4.app g5 (by omega), m5.symm, p54.kp wt4 g5 (by omega), p5, ya, yB, yb'⟩ (.cons rfl (.cons rfl (.cons rfl (.cons rfl (.cons rfl (.cons rfl .nil)))))) rfl
   ·exact absurd (by rw [hkn]; cases yy.2.2 <;> decide) hk
  ·rintro ⟨t5, kv, K⟩ ⟨kt5, n45, p55, p65, hkv, hkb, hKy⟩
   simp only at kt5 n45 p55 p65 hkv hkb hKy
   dsimp only
   have wt5 := kt5.wf wt
   have l55 : ldq t5 (qadd (some ⟨b5, 0, none⟩) 2) = some (.slice u4 kss.length uc2) := p55.f1 rfl
   refine run1 ?_
   refine W.meet (α := St × Value × List Nat) (fun a => [(3, .slice q i cc), (8, .slice qi css.length ci), (9, nI css.length), (10, nI i), (6, .pointer (some ⟨b6, 0, none⟩))]) (fun a => a.1)
    (fun a => Kn t a.1 ∧ t4.nx = a.1.nx ∧ Rw a.1 b6 [kv, a.2.1, .bool gz] b6 ∧ BvK s C a.2.1 a.2.2 ∧ (∀ y ∈ a.2.2, y < 256) ∧ a.2.2 = yy.2.1) ?_ ?_
   ·by_cases hk : 1 < kss.length
    ·obtain ⟨y, hy⟩ : ∃ y, kss[1]? = some y := ⟨kss[1]'hk, List.getElem?_eq_getElem _⟩
     obtain ⟨gqk, -⟩ := kid (hka.kn w0 (I.kn.call kt5)) (fun x hx => (hks x hx).1) hy
     obtain ⟨yb, yb', hyb⟩ : ∃ b, b = yy.2.1 ∧ IxK s C (d + 1) (.mk false b []) y := ⟨_, rfl, (hke y).2 hy⟩
     obtain ⟨yq, yc, rfl, ya, yl, yB⟩ := hyb.byt w0
     have lk : ldq t5 (qadd (qadd u4 (1 * 3)) 1) = some (.slice yq yb.length yc) := kid_ld (hka.kn w0 (I.kn.call kt5)) (fun x hx => (hks x hx).1) hy rfl
     refine run1 ?_
     refine Wo.st rfl rfl rfl rfl rfl rfl rfl (by intro v hv; rw [List.mem_singleton] at hv; rw [hv]; rfl) p65 (show 0 + 1 + 1 ≤ 3 by decide) fun t6 p6 m6 g6 => ?_
     have p6 : Rw t6 b6 [kv, .slice yq yb.length yc, .bool gz] b6 := p6
     refine run1 ?_
     exact meet.n (t6, .slice yq yb.length yc, yb) ⟨kt5.app g6 (by omega), n45.trans m6.symm, p6, ya, yB, yb'⟩ (.cons rfl (.cons rfl (.cons rfl (.cons rfl (.cons rfl .nil))))) rfl
    ·refine run1 ?_
     exact meet.n (t5, .slice none 0 0, []) ⟨kt5, n45, p65, fun _ _ => ⟨none, 0, rfl, .inl ⟨rfl, .inl rfl⟩, show 0 < 2 ^ 60 by decide⟩, fun y hy => (List.not_mem_nil hy).elim, (hgo yy (List.mem_of_getElem? hyy) (by
      cases e : yy.2.2 with
      | true => rfl
      | false => rw [hkn, e] at hk; exact absurd (by decide) hk)).symm⟩ (.cons rfl (.cons rfl (.cons rfl (.cons rfl (.cons rfl .nil))))) rfl
   ·rintro ⟨t6, vv, V⟩ ⟨kt6, n46, p66, hvv, hvb, hVy⟩
    simp only at kt6 n46 p66 hvv hvb hVy
    dsimp only
    have wt6 := kt6.wf wt
    obtain ⟨x, hx⟩ : ∃ x : Ch, x = ⟨kv, vv, K, V, gz⟩ := ⟨_, rfl⟩
    have hok : ChK s C x := by subst hx; exact fun t k => ⟨hkv t k, hvv t k, hkb, hvb⟩
    have hone := (hok s .refl).one
    obtain ⟨qk, ck, ek, _⟩ := hkv s .refl
    obtain ⟨qv, cv, ev1, _⟩ := hvv s .refl
    have hch : chc x = [.slice qk K.length ck, .slice qv V.length cv, .bool gz] := by subst hx ek ev1; rfl
    rw [ek, ev1] at p66
    rw [hch] at hone
    have l6 := p66.all (n := 3) rfl (by decide)
    refine run1 ?_
    refine mkO (cs := [.slice qk K.length ck, .slice qv V.length cv, .bool gz]) fun t7 p7 m7 g7 => ?_
    have wt7 := g7.wf wt6
    have Kt7 : Kn t t7 := kt6.call g7
    have e7 := Kt7.le
    have hb6t := (p66.lt wt6).1
    obtain ⟨γ0, hgw, hγt, hγs⟩ : ∃ γ0, Gw t7 q i cc 3 (xs.map chc).flatten γ0 ∧ γ0 < t7.nx ∧ s.nx ≤ γ0 := by
     rcases I.st with ⟨rfl, rfl⟩ | ⟨c1, c2⟩
     ·have hc0 : cc = 0 := by
       rcases I.gw.at' with ⟨_, _, h⟩ | ⟨_, _, h, _⟩
       ·exact h
       ·cases h
      have hxs : xs = [] := List.eq_nil_of_length_eq_zero I.len
      subst hc0 hxs
      exact ⟨b6, .nil, by omega, by omega⟩
     ·exact ⟨γ, I.gw.kp wt Kt7 id, by omega, c1⟩
    refine Wo.app rfl rfl rfl rfl rfl rfl rfl rfl rfl wt7 hgw rfl (cells_at (k := 1) (size := 3) p7.ats rfl (by decide)) rfl hone rfl (by omega) (by omega) ?_
    intro qn cn γn ta a1 a2 a3
    have wta := a2.wf wt7
    have ea := a2.le
    have hγa : γn < ta.nx := by
     refine a1.ltq wta ?_
     rintro rfl
     rcases a1.at' with ⟨_, h, _⟩ | ⟨_, _, h, _⟩ <;> cases h
    refine run1 ?_
    refine rnd.n (i + 1, qn, cn, ta) ⟨hi, γn, xs ++ [x], ⟨(I.kn.call Kt7).app a2 hγs, by rw [List.length_append, I.len]; rfl, ?_, .inr ⟨by show s.nx ≤ γn; rcases a3 with h | ⟨h, _⟩ <;> omega, hγa⟩, fun y hy => ?_⟩, ?_⟩ (by show css.length - (i + 1) < css.length - i; omega) (.cons rfl (.cons rfl (.cons rfl (.cons rfl .nil)))) rfl rfl
    ·show Gw ta qn (i + 1) cn 3 ((xs ++ [x]).map chc).flatten γn
     rw [List.map_append, List.flatten_append, show ([x].map chc).flatten = chc x by simp, hch]
     exact a1
    ·rcases List.mem_append.1 hy with hy | hy
     ·exact I.it y hy
     ·rw [List.mem_singleton.1 hy]; exact hok
    ·show (xs ++ [x]).map Go.Proofs.YtglilbadldocoaaGreatDoor.cv = ys.take (i + 1)
     have hiy : i < ys.length := by omega
     rw [List.take_succ_eq_append_getElem hiy, List.map_append, I2]
     rw [List.getElem?_eq_getElem hiy] at hyy
     rw [Option.some.inj hyy]
     subst hx
     show ys.take i ++ [(K, V, gz)] = _
     rw [hKy, hVy, hgy]
 ·have hie : i = css.length := by omega
  refine run1 ?_
  refine Lv.ret rfl ⟨q, xs, cc, ?_, (fun t1 k1 => ⟨?_, fun x hx => I.it x hx t1 ((I.kn.w).trans (k1.mono fun c h => h.imp id fun h => Nat.le_trans et h)), by rw [I.len]; omega⟩), ?_, I.kn⟩
  ·rw [I.len]; rfl
  ·rcases I.st with ⟨h1, h2⟩ | ⟨h1, h2⟩
   ·have hxs : xs = [] := List.eq_nil_of_length_eq_zero (by rw [I.len, h1])
    rw [hxs, h2]
    exact .inl ⟨rfl, .inl rfl⟩
   ·exact (I.gw.sl.kp wt k1 (fun e => e.elim (fun e => by have := hC _ e; omega) (by omega))).at
  ·rw [I2, hie, hyl, List.take_length]
end Go.Proofs.YtglilbadldocoaaGreatDoor
