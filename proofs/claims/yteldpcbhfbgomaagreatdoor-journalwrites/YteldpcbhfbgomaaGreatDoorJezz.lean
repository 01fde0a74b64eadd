import Derived.Test.YteldpcbhfbgomaaGreatDoorJdzz
namespace Go.Sy
open Go Go.Ev
theorem Gw.kpn {C : Nat → Prop} {s s' : St} {q : Option Addr} {n c size : Nat} {cs : List Value} {γ : Nat} (h : Gw s q n c size cs γ) (w : Wf s) (k : Kp C s s') (hc : q ≠ none → ¬ C γ) : Gw s' q n c size cs γ := by
 rcases h.at' with ⟨e1, e2, e3⟩ | ⟨b, g, e1, e2, e3, e4⟩
 ·exact ⟨h.len, .inl ⟨e1, e2, e3⟩⟩
 ·exact h.kp w k (hc (by rw [e1]; exact Option.some_ne_none _))
theorem Gw.ltq {s : St} {q : Option Addr} {n c size : Nat} {cs : List Value} {γ : Nat} (h : Gw s q n c size cs γ) (w : Wf s) (hq : q ≠ none) : γ < s.nx := by
 rcases h.at' with ⟨e1, _⟩ | ⟨b, g, e1, e2, e3, e4⟩
 ·exact absurd e1 hq
 ·exact (Rw.lt ⟨g, e2, e3⟩ w).2
section
variable {X : Fx} {env : Env} {df : List Deferred} {s : St} {Q : Post} {all os : List Oper} {d : Option Nat} {ty : TypeId} {pos : String} {af : Array Edge} {g : Option (Nat × Bool)} {x y : Operand} {t u e n0 nu : Nat} {z0 zu : Option (List Value)} {z : List Value} {t0 t1 tu : Nat} {ke ku : Sh} {q q' : Option Addr} {c c' γ : Nat} {A D : List Nat}
theorem Wo.appB (hgd : wantsE all env g = some true) (ht : tk X.B.T t = some ⟨t0, n0, .sl e, z0⟩) (he : tk X.B.T e = some ⟨t1, 1, ke, some z⟩) (hu : tk X.B.T u = some ⟨tu, nu, ku, zu⟩) (hn : notI ku = true) (hd : dOk X d = true)
  (hx : ev env x = some (.slice q A.length c)) (hy : ev env y = some (.slice q' D.length c')) (w : Wf s) (hg : Gw s q A.length c 1 (A.map nB) γ) (hD : Bs s q' D) (hV : lkV X.B.V e = some 1) (hl : A.length + D.length < 2 ^ 40)
  (K : ∀ q2 c2 γ2 s2, Gw s2 q2 (A ++ D).length c2 1 ((A ++ D).map nB) γ2 → Kp (fun x => x = γ) s s2 → (γ2 = γ ∨ γ2 = s.nx ∧ Kn s s2) → Wo X all os (up d (.slice q2 (A ++ D).length c2) env) df s2 Q) :
  Wo X all (⟨d, .call ⟨.builtin .append, #[x, y], #[t, u]⟩, ty, pos, af, g⟩ :: os) env df s Q := by
 refine Wo.app hgd ht he hu hn rfl hd hx hy w hg rfl hD.cells (by rw [List.length_map, Nat.mul_one]) one_nB hV (by omega) (by omega) ?_
 intro q2 c2 γ2 s2 h1 h2 h3
 have := K q2 c2 γ2 s2 (by rw [List.length_append, List.map_append]; exact h1) h2 h3
 rw [List.length_append] at this
 exact this
theorem Wd.appB {i m : Nat} {L : List Sp} {past : Past} (hgd : wantsE all env g = some true) (ht : tk X.B.T t = some ⟨t0, n0, .sl e, z0⟩) (he : tk X.B.T e = some ⟨t1, 1, ke, some z⟩) (hu : tk X.B.T u = some ⟨tu, nu, ku, zu⟩) (hn : notI ku = true) (hd : dOk X d = true)
  (hx : ev env x = some (.slice q A.length c)) (hy : ev env y = some (.slice q' D.length c')) (w : Wf s) (hg : Gw s q A.length c 1 (A.map nB) γ) (hD : Bs s q' D) (hV : lkV X.B.V e = some 1) (hl : A.length + D.length < 2 ^ 40)
  (K : ∀ q2 c2 γ2 s2, Gw s2 q2 (A ++ D).length c2 1 ((A ++ D).map nB) γ2 → Kp (fun x => x = γ) s s2 → (γ2 = γ ∨ γ2 = s.nx ∧ Kn s s2) → Wd X all L ((some i, s2) :: past) (up d (.slice q2 (A ++ D).length c2) env) df s2 Q) :
  Wd X all (.mk .acts i ⟨d, .call ⟨.builtin .append, #[x, y], #[t, u]⟩, ty, pos, af, g⟩ m :: L) past env df s Q := by
 refine Wd.app hgd ht he hu hn rfl hd hx hy w hg rfl hD.cells (by rw [List.length_map, Nat.mul_one]) one_nB hV (by omega) (by omega) ?_
 intro q2 c2 γ2 s2 h1 h2 h3
 have := K q2 c2 γ2 s2 (by rw [List.length_append, List.map_append]; exact h1) h2 h3
 rw [List.length_append] at this
 exact this
end
end Go.Sy
namespace Go.Proofs.YteldpcbhfbgomaaGreatDoor
open Go Go.Ev Go.Sy
set_option maxRecDepth 100000
variable {s : St}
def chi (x : Ch) : List Nat := fS x.k ++ (if x.g then [] else fS x.v)
def chf (x : Ch) : List Nat := fL (chi x)
def bdy (k c q : Nat) (P R : List Nat) (xs : List Ch) : List Nat := fL (fS (dgs k) ++ fS (dgs c) ++ fS (dgs q) ++ fS P ++ fS R ++ fL (xs.flatMap chf))
theorem hd_le {base n : Nat} (hn : n < 2 ^ 40) : (hd base n).length ≤ 9 := by
 unfold hd
 split
 ·exact (show 1 ≤ 9 by decide)
 ·have := dgs_len (k := 8) (n := n) (by omega)
  rw [List.length_cons]; omega
theorem fS_le {A : List Nat} (h : A.length < 2 ^ 40) : (fS A).length ≤ A.length + 9 := by
 unfold fS
 split
 ·omega
 ·have := hd_le (base := 128) h
  rw [List.length_append]; omega
theorem fL_le {A : List Nat} (h : A.length < 2 ^ 40) : (fL A).length ≤ A.length + 9 := by
 unfold fL
 have := hd_le (base := 192) h
 rw [List.length_append]; omega
theorem chf_le {x : Ch} (h : chM x) : (chi x).length ≤ 306 ∧ (chf x).length ≤ 315 := by
 have h1 := h.1
 have h2 := h.2.1
 have e1 := fS_le (A := x.k) (by omega)
 have e2 := fS_le (A := x.v) (by omega)
 have e3 : (chi x).length ≤ 306 := by
  unfold chi
  rw [List.length_append]
  split
  ·rw [List.length_nil]; omega
  ·omega
 exact ⟨e3, by have := fL_le (A := chi x) (by omega); unfold chf; omega⟩
theorem flat_le {xs : List Ch} (h : ∀ x ∈ xs, chM x) : (xs.flatMap chf).length ≤ 315 * xs.length := by
 induction xs with
 | nil => simp
 | cons x xs ih =>
  rw [List.flatMap_cons, List.length_append, List.length_cons]
  have := (chf_le (h x (by simp))).2
  have := ih fun y hy => h y (by simp [hy])
  omega
theorem New.bs {s s' : St} {v : Value} {A : List Nat} (h : New s s' v A) : ∃ q c γ, v = .slice q A.length c ∧ Gw s' q A.length c 1 (A.map nB) γ ∧ Bs s' q A ∧ s.nx ≤ γ ∧ Kn s s' := by
 obtain ⟨q, c, γ, h1, h2, h3, h4⟩ := h
 exact ⟨q, c, γ, h1, h2, h2.sl.at, h3, h4⟩
set_option maxHeartbeats 3200000 in
theorem rbody_ok {k c q : Nat} {P R : List Nat} {Q : Option Addr} {xs : List Ch} {C : Nat} (w0 : Wf s) (hP : P.length = 32) (hR : R.length = 32) (h : RcOk s Q xs) (hm : mayR k c q xs) :
  Cl B (.call 7 [.agg ⟨rcV k c q P R (.slice Q xs.length C)⟩]) s fun v s' => ∃ u, v = .tuple ⟨[u, nI 0]⟩ ∧ New s s' u (bdy k c q P R xs) := by
 have hk2 : k ≤ 2 := by rcases hm.1 with ⟨h, _⟩ | ⟨h, _⟩ <;> omega
 have hc40 : c ≤ 1099511627776 := by have := hm.2.2.1; omega
 have hq40 : q ≤ 1099511627776 := by have := hm.2.2.2.1; omega
 have hx32 : xs.length ≤ 32 := by rcases hm.1 with ⟨_, _, h⟩ | ⟨_, _, h⟩ <;> omega
 have hmay := hm.2.2.2.2
 have hfl := flat_le hmay
 refine Cl.enter Tryz.f7 fn7 rfl rfl rfl ?_
 refine run1 ?_
 refine mk_gen (cs := rcV k c q P R (.slice Q xs.length C)) (M := fun s' => Wo _ _ _ _ _ s' _) fun s1 r1 n1 k1 => ?_
 have w1 : Wf s1 := k1.wf w0
 have gd : good (some ⟨s.nx, 0, none⟩) := good_b
 have lr := r1.all (n := 68) (rc_len hP hR) (by decide)
 refine run1 ?_
 refine Wo.call rfl (Xc.call ok20 rfl) rfl ((rmay_ok w1 hP hR (h.kn w0 k1)).mono ?_)
 rintro v s2 ⟨rfl, k2⟩
 rw [decide_eq_true hm]
 have w2 : Wf s2 := k2.wf w1
 have r2 := r1.kp w1 k2 id
 have h12 := k2.le
 refine run1 ?_
 refine W.loop (α := Nat × Option Addr × Nat × Nat × St) (fun a => [(1, .pointer (some ⟨s.nx, 0, none⟩)), (4, .slice a.2.1 ((xs.take a.1).flatMap chf).length a.2.2.1), (5, nI a.1)]) (fun _ => []) (fun a => a.2.2.2.2)
  (fun a => a.1 ≤ xs.length ∧ Gw a.2.2.2.2 a.2.1 ((xs.take a.1).flatMap chf).length a.2.2.1 1 (((xs.take a.1).flatMap chf).map nB) a.2.2.2.1 ∧ s2.nx ≤ a.2.2.2.1 ∧ Kn s2 a.2.2.2.2) (fun a => xs.length - a.1) (0, none, 0, s2.nx, s2) ⟨Nat.zero_le _, Gw.nil, Nat.le_refl _, .refl⟩ (.cons rfl (.cons rfl (.cons rfl .nil))) rfl rfl (by show xs.length - 0 < _; omega) ?_
 rintro ⟨i, ql, cl, γl, t0⟩ ⟨i1, i2, i3, i4⟩
 simp only at i1 i2 i3 i4
 dsimp only
 have wt : Wf t0 := i4.wf w2
 have k0t : Kn s t0 := k1.call (k2.call i4)
 have rt := r2.kp w2 i4 id
 have b5 : ldq t0 (qadd (some ⟨s.nx, 0, none⟩) 67) = some (.slice Q xs.length C) := rt.f1 (rc_chg hP hR)
 have hti : ((xs.take i).flatMap chf).length ≤ 315 * 32 := by
  have := flat_le (xs := xs.take i) fun y hy => hmay y (List.mem_of_mem_take hy)
  rw [List.length_take] at this
  omega
 by_cases hi : i < xs.length
 ·have hok := h.ok _ (List.getElem_mem hi)
  have hch := hmay _ (List.getElem_mem hi)
  have hcle := chf_le hch
  have et : (xs.take (i + 1)).flatMap chf = (xs.take i).flatMap chf ++ chf xs[i] := by rw [List.take_succ_eq_append_getElem hi, List.flatMap_append]; simp
  have kd : ∀ {t : St}, Kn s t → good Q ∧ ldn t (qadd Q (i * 3)) 3 = some (chc xs[i]) := fun k => (h.kn w0 k).kid hi
  obtain ⟨x, ex⟩ : ∃ x, x = xs[i] := ⟨_, rfl⟩
  rw [← ex] at hok hch hcle et kd
  obtain ⟨⟨qk, ck, ek, bk1, bk2⟩, ⟨qv, cv, ev1, bv1, bv2⟩, _, _⟩ := hok
  have hAt : ∀ {t : St}, Kn s t → At t Q (xs.map chc).flatten := fun k => (h.at'.kn w0 k)
  have f3 := flat3 (css := xs.map chc) (fun x hx => by obtain ⟨y, _, rfl⟩ := List.mem_map.1 hx; rfl) (i := i) (x := chc x) (by rw [List.getElem?_map, List.getElem?_eq_getElem hi, ex]; rfl)
  have ldx : ∀ {t : St} {j : Nat} {v : Value}, Kn s t → (chc x)[j]? = some v → ldq t (qadd (qadd Q (i * 3)) j) = some v := fun {t j v} k hv => by
   have hj : j < 3 := (List.getElem?_eq_some_iff.1 hv).1
   have hv' : ((xs.map chc).flatten.drop (i * 3) |>.take 3)[j]? = some v := by rw [f3.1]; exact hv
   rw [List.getElem?_take_of_lt hj, List.getElem?_drop] at hv'
   obtain ⟨y1, y2⟩ := List.getElem?_eq_some_iff.1 hv'
   rw [qadd_qadd, (hAt k).ld y1, y2]
  have gQ := (kd k0t).1
  have c0 : ldq t0 (qadd (qadd Q (i * 3)) 0) = some (.slice qk x.k.length ck) := by rw [← ek]; exact ldx k0t rfl
  refine run1 ?_
  refine Wo.call rfl (Xc.call ok21 rfl) rfl ((rtext_ok wt (bk1.kn w0 k0t) (by have := hch.1; omega)).mono ?_)
  rintro v t1 ⟨q1, c1, γ1, rfl, g1, l1, k3⟩
  have wt1 : Wf t1 := k3.wf wt
  have k01 : Kn s t1 := k0t.call k3
  have b51 : ldq t1 (qadd (some ⟨s.nx, 0, none⟩) 67) = some (.slice Q xs.length C) := (rt.kp wt k3 id).f1 (rc_chg hP hR)
  have c2 : ldq t1 (qadd (qadd Q (i * 3)) 2) = some (.bool x.g) := ldx k01 rfl
  have hlk := fS_le (A := x.k) (by have := hch.1; omega)
  have hlv := fS_le (A := x.v) (by have := hch.2.1; omega)
  have hl1 := hch.1
  have hl2 := hch.2.1
  have i2' : Gw t1 ql ((xs.take i).flatMap chf).length cl 1 (((xs.take i).flatMap chf).map nB) γl := i2.kp wt k3 id
  refine run1 ?_
  refine W.meet (α := Option Addr × Nat × Nat × St) (fun a => [(1, .pointer (some ⟨s.nx, 0, none⟩)), (4, .slice ql ((xs.take i).flatMap chf).length cl), (5, nI i), (6, .slice a.1 (chi x).length a.2.1)]) (fun a => a.2.2.2)
   (fun a => Bs a.2.2.2 a.1 (chi x) ∧ Gw a.2.2.2 ql ((xs.take i).flatMap chf).length cl 1 (((xs.take i).flatMap chf).map nB) γl ∧ Kn s2 a.2.2.2) ?_ ?_
  ·cases hg : x.g with
   | true =>
    rw [hg] at c2
    have ec : chi x = fS x.k := by rw [chi, hg]; simp
    rw [ec]
    refine run1 ?_
    exact meet.n (q1, c1, γ1, t1) ⟨g1.sl.at, i2', i4.call k3⟩ (.cons rfl (.cons rfl (.cons rfl (.cons rfl .nil)))) rfl
   | false =>
    rw [hg] at c2
    have ec : chi x = fS x.k ++ fS x.v := by rw [chi, hg]; rfl
    rw [ec]
    have c1' : ldq t1 (qadd (qadd Q (i * 3)) 1) = some (.slice qv x.v.length cv) := by rw [← ev1]; exact ldx k01 rfl
    refine run1 ?_
    refine Wo.call rfl (Xc.call ok21 rfl) rfl ((rtext_ok wt1 (bv1.kn w0 k01) (by omega)).mono ?_)
    rintro v t2 ⟨q2, c2', γ2, rfl, g2, l2, k4⟩
    have wt2 : Wf t2 := k4.wf wt1
    refine Wo.appB rfl rfl rfl rfl rfl rfl rfl rfl wt2 (g1.kp wt1 k4 id) g2.sl.at rfl (by omega) ?_
    intro q3 c3 γ3 t3 h1 h2 h3
    refine run1 ?_
    have hq0 : ql ≠ none → γl < t0.nx := fun hq => i2.ltq wt hq
    refine meet.n (q3, c3, γ3, t3) ⟨h1.sl.at, (i2'.kp wt1 k4 id).kpn wt2 h2 (fun hq => by have := hq0 hq; omega), ?_⟩ (.cons rfl (.cons rfl (.cons rfl (.cons rfl .nil)))) rfl
    exact (i4.call (k3.call k4)).app h2 (by have := i4.le; omega)
  ·rintro ⟨q3, c3, γ3, t3⟩ ⟨j1, j2, j3⟩
   simp only at j1 j2 j3
   dsimp only
   have wt3 : Wf t3 := j3.wf w2
   refine run1 ?_
   refine Wo.call rfl (Xc.call ok22 rfl) rfl ((rheaded_ok (.inr rfl) wt3 j1 (by omega)).mono ?_)
   rintro v t4 hN
   obtain ⟨q4, c4, γ4, rfl, g4, l4, k5⟩ : New t3 t4 v (chf x) := hN
   have wt4 : Wf t4 := k5.wf wt3
   refine Wo.appB rfl rfl rfl rfl rfl rfl rfl rfl wt4 (j2.kp wt3 k5 id) g4.sl.at rfl (by omega) ?_
   intro q5 c5 γ5 t5 h1 h2 h3
   refine run1 ?_
   rw [← et] at h1
   refine rnd.n (i + 1, q5, c5, γ5, t5) ⟨hi, h1, ?_, (j3.call k5).app h2 i3⟩ (by show xs.length - (i + 1) < xs.length - i; omega) (.cons rfl (.cons ?_ (.cons rfl .nil))) rfl rfl
   ·show s2.nx ≤ γ5
    have := j3.le
    have := k5.le
    rcases h3 with h | ⟨h, _⟩ <;> omega
   ·show some (Value.slice q5 ((xs.take i).flatMap chf ++ chf x).length c5) = some (Value.slice q5 ((xs.take (i + 1)).flatMap chf).length c5)
    rw [et]
 ·rw [List.take_of_length_le (by omega)] at i2 ⊢
  have b0 : ldq t0 (qadd (some ⟨s.nx, 0, none⟩) 0) = some (nI k) := rt.f1 rfl
  have b1 : ldq t0 (qadd (some ⟨s.nx, 0, none⟩) 1) = some (nI c) := rt.f1 rfl
  refine run1 ?_
  have hdk := dgs_len (k := 8) (n := k) (by omega)
  have hdc := dgs_len (k := 8) (n := c) (by omega)
  have hdq := dgs_len (k := 8) (n := q) (by omega)
  have e1 := fS_le (A := dgs k) (by omega)
  have e2 := fS_le (A := dgs c) (by omega)
  have e3 := fS_le (A := dgs q) (by omega)
  have e4 := fS_le (A := P) (by omega)
  have e5 := fS_le (A := R) (by omega)
  have e6 := fL_le (A := xs.flatMap chf) (by omega)
  have hq0 : ql ≠ none → γl < t0.nx := fun hq => i2.ltq wt hq
  have rd : ∀ {t : St} {j : Nat} {v : Value}, Kn t0 t → (rcV k c q P R (.slice Q xs.length C))[j]? = some v → ldq t (qadd (some ⟨s.nx, 0, none⟩) j) = some v := fun kt hv => (rt.kp wt kt id).f1 hv
  have bP : ∀ {t : St}, Kn t0 t → Bs t (some ⟨s.nx, 3, none⟩) P := fun kt => by
   have := ((rt.kp wt kt id).sl (o := 3) (n := 32) (by rw [rc_len hP hR]; decide)).at
   have e : ((rcV k c q P R (.slice Q xs.length C)).drop 3).take 32 = P.map nB := by
    show (P.map nB ++ (R.map nB ++ [_])).take 32 = _
    rw [List.take_append_of_le_length (by rw [List.length_map]; omega), List.take_of_length_le (by rw [List.length_map]; omega)]
   rwa [e] at this
  have bR : ∀ {t : St}, Kn t0 t → Bs t (some ⟨s.nx, 35, none⟩) R := fun kt => by
   have := ((rt.kp wt kt id).sl (o := 35) (n := 32) (by rw [rc_len hP hR]; decide)).at
   have e : ((rcV k c q P R (.slice Q xs.length C)).drop 35).take 32 = R.map nB := by
    show ((P.map nB ++ (R.map nB ++ [_])).drop 32).take 32 = _
    rw [List.drop_append_of_le_length (by rw [List.length_map]; omega), List.drop_of_length_le (by rw [List.length_map]; omega), List.nil_append, List.take_append_of_le_length (by rw [List.length_map]; omega), List.take_of_length_le (by rw [List.length_map]; omega)]
   rwa [e] at this
  refine W.dr [(0, .none, 0), (1, .reads, 1), (2, .acts, 3), (3, .acts, 7), (4, .none, 0), (5, .reads, 16), (6, .acts, 63), (7, .acts, 127), (8, .acts, 255), (9, .none, 511)] (by kernel_rfl) rfl (run1 ?_)
  refine Wd.call rfl (Xc.call ok23 rfl) rfl ((rnumber_ok wt (by omega)).mono ?_)
  rintro v t1 ⟨q1, c1, γ1, rfl, g1, l1, k3⟩
  refine ⟨k3.le, ?_⟩
  have wt1 : Wf t1 := k3.wf wt
  refine Wd.call rfl (Xc.call ok21 rfl) rfl ((rtext_ok wt1 g1.sl.at (by omega)).mono ?_)
  rintro v t2 ⟨q2, c2, γ2, rfl, g2, l2, k4⟩
  refine ⟨k4.le, ?_⟩
  have wt2 : Wf t2 := k4.wf wt1
  have K2 : Kn t0 t2 := k3.call k4
  have x0 : ldq t0 (qadd (some ⟨s.nx, 0, none⟩) 1) = some (nI c) := b1
  have x1 : ldq t1 (qadd (some ⟨s.nx, 0, none⟩) 1) = some (nI c) := rd k3 rfl
  have x2 : ldq t2 (qadd (some ⟨s.nx, 0, none⟩) 1) = some (nI c) := rd K2 rfl
  refine Wd.val rfl (Xv.fa rfl rfl rfl rfl rfl gd) rfl (Nat.le_refl _) ?_
  refine Wd.read rfl (Xv.ld rfl rfl rfl x2) rfl eqV_int ⟨Xv.ld rfl rfl rfl x2, ⟨Xv.ld rfl rfl rfl x1, ⟨Xv.ld rfl rfl rfl x0, trivial⟩⟩⟩ ?_
  refine Wd.call rfl (Xc.call ok23 rfl) rfl ((rnumber_ok wt2 (by omega)).mono ?_)
  rintro v t3 ⟨q3, c3, γ3, rfl, g3, l3, k5⟩
  refine ⟨k5.le, ?_⟩
  have wt3 : Wf t3 := k5.wf wt2
  refine Wd.call rfl (Xc.call ok21 rfl) rfl ((rtext_ok wt3 g3.sl.at (by omega)).mono ?_)
  rintro v t4 ⟨q4, c4, γ4, rfl, g4, l4, k6⟩
  refine ⟨k6.le, ?_⟩
  have wt4 : Wf t4 := k6.wf wt3
  have K4 : Kn t0 t4 := K2.call (k5.call k6)
  have le1 := k3.le
  refine Wd.appB rfl rfl rfl rfl rfl rfl rfl rfl wt4 (g2.kp wt2 (k5.call k6) id) g4.sl.at rfl (by omega) ?_
  intro q5 c5 γ5 t5 h1 h2 h3
  have K5 : Kn t0 t5 := K4.app h2 (by omega)
  have wt5 : Wf t5 := K5.wf wt
  have i5 := i2.kpn wt (K4.mono fun _ h => absurd h id : Kp (fun c => c = γ2) t0 t4) (fun hq => by have := hq0 hq; omega)
  have i25 := i5.kpn wt4 h2 (fun hq => by have := hq0 hq; omega)
  have l5 : t0.nx ≤ γ5 := by have := K4.le; rcases h3 with h | ⟨h, _⟩ <;> omega
  have y5 : ldq t5 (qadd (some ⟨s.nx, 0, none⟩) 2) = some (nI q) := rd K5 rfl
  refine run1 ?_
  refine Wo.call rfl (Xc.call ok23 rfl) rfl ((rnumber_ok wt5 (by omega)).mono ?_)
  rintro v t6 ⟨q6, c6, γ6, rfl, g6, l6, k7⟩
  have wt6 : Wf t6 := k7.wf wt5
  refine Wo.call rfl (Xc.call ok21 rfl) rfl ((rtext_ok wt6 g6.sl.at (by omega)).mono ?_)
  rintro v t7 ⟨q7, c7, γ7, rfl, g7, l7, k8⟩
  have wt7 : Wf t7 := k8.wf wt6
  have k57 : Kn t5 t7 := k7.call k8
  refine Wo.appB rfl rfl rfl rfl rfl rfl rfl rfl wt7 (h1.kp wt5 k57 id) g7.sl.at rfl (by rw [List.length_append]; omega) ?_
  intro q8 c8 γ8 t8 m1 m2 m3
  have K8 : Kn t0 t8 := (K5.call k57).app m2 l5
  have wt8 : Wf t8 := K8.wf wt
  have i28 := (i25.kp wt5 k57 id).kpn wt7 m2 (fun hq => by have := hq0 hq; omega)
  have l8 : t0.nx ≤ γ8 := by have := K5.le; have := k57.le; rcases m3 with h | ⟨h, _⟩ <;> omega
  refine run1 ?_
  refine Wo.val rfl (Xv.slP (b := s.nx) (o := 3) rfl rfl rfl (by decide)).1 rfl ?_
  have tP := rtext_ok (c := sure 32) wt8 (bP K8) (by omega)
  rw [hP] at tP
  refine Wo.call rfl (Xc.call ok21 rfl) rfl (tP.mono ?_)
  rintro v t9 ⟨q9, c9, γ9, rfl, g9, l9, k9⟩
  have wt9 : Wf t9 := k9.wf wt8
  refine Wo.appB rfl rfl rfl rfl rfl rfl rfl rfl wt9 (m1.kp wt8 k9 id) g9.sl.at rfl (by rw [List.length_append, List.length_append]; omega) ?_
  intro qa ca γa ta p1 p2 p3
  have Ka : Kn t0 ta := (K8.call k9).app p2 l8
  have wta : Wf ta := Ka.wf wt
  have i2a := (i28.kp wt8 k9 id).kpn wt9 p2 (fun hq => by have := hq0 hq; omega)
  have la : t0.nx ≤ γa := by have := K8.le; have := k9.le; rcases p3 with h | ⟨h, _⟩ <;> omega
  refine run1 ?_
  refine Wo.val rfl (Xv.slP (b := s.nx) (o := 35) rfl rfl rfl (by decide)).1 rfl ?_
  have tR := rtext_ok (c := sure 32) wta (bR Ka) (by omega)
  rw [hR] at tR
  refine Wo.call rfl (Xc.call ok21 rfl) rfl (tR.mono ?_)
  rintro v tb ⟨qb, cb, γb, rfl, gb, lb, kb⟩
  have wtb : Wf tb := kb.wf wta
  refine Wo.appB rfl rfl rfl rfl rfl rfl rfl rfl wtb (p1.kp wta kb id) gb.sl.at rfl (by rw [List.length_append, List.length_append, List.length_append]; omega) ?_
  intro qc cc γc tc u1 u2 u3
  have Kc : Kn t0 tc := (Ka.call kb).app u2 la
  have wtc : Wf tc := Kc.wf wt
  have i2c := (i2a.kp wta kb id).kpn wtb u2 (fun hq => by have := hq0 hq; omega)
  have lc : t0.nx ≤ γc := by have := Ka.le; have := kb.le; rcases u3 with h | ⟨h, _⟩ <;> omega
  refine run1 ?_
  refine Wo.call rfl (Xc.call ok22 rfl) rfl ((rheaded_ok (.inr rfl) wtc i2c.sl.at (by omega)).mono ?_)
  rintro v td hN
  obtain ⟨qd, cd, γd, rfl, gd1, ld1, kd⟩ : New tc td v (fL (xs.flatMap chf)) := hN
  have wtd : Wf td := kd.wf wtc
  refine Wo.appB rfl rfl rfl rfl rfl rfl rfl rfl wtd (u1.kp wtc kd id) gd1.sl.at rfl (by rw [List.length_append, List.length_append, List.length_append, List.length_append]; omega) ?_
  intro qe ce γe te z1 z2 z3
  have Ke : Kn t0 te := (Kc.call kd).app z2 lc
  have wte : Wf te := Ke.wf wt
  refine run1 ?_
  refine Wo.call rfl (Xc.call ok22 rfl) rfl ((rheaded_ok (.inr rfl) wte z1.sl.at (by simp only [List.length_append]; omega)).mono ?_)
  rintro v tf hN
  obtain ⟨qf, cf, γf, rfl, gf, lf, kf⟩ : New te tf v (bdy k c q P R xs) := hN
  refine run1 ?_
  exact Lv.ret rfl ⟨_, rfl, qf, cf, γf, rfl, gf, by have := k0t.le; have := Ke.le; omega, k0t.call (Ke.call kf)⟩
end Go.Proofs.YteldpcbhfbgomaaGreatDoor
