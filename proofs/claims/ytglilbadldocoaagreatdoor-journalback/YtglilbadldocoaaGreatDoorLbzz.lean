import Derived.Test.YtglilbadldocoaaGreatDoorMkzz
import Derived.Test.YtglilbadldocoaaGreatDoorWbzz
import Derived.Test.YtglilbadldocoaaGreatDoorAczz
namespace Go.Sy
open Go Go.Ev
section
variable {X : Fx} {env : Env} {s : St}
theorem Xv.slFromR {t t0 n0 e t1 size : Nat} {z0 z : Option (List Value)} {ke : Sh} {x y : Operand} {k : IntKind} {b o n c l : Nat} (ht : tk X.B.T t = some ⟨t0, n0, .sl e, z0⟩) (he : tk X.B.T e = some ⟨t1, size, ke, z⟩) (hx : ev env x = some (.slice (some ⟨b, o, none⟩) n c)) (hy : ev env y = some (.int k (.ofNat l)))
  (hc : Rm c n size) (hl : l < n) : ∃ c', Rm c' (n - l) size ∧ Xv X (.slice t x (some y) none none) env s (.slice (some ⟨b, o + l * size, none⟩) (n - l) c') s := by
 have mk : ∀ o m d : Nat, mkSl b o m d = some (.slice (some ⟨b, o, none⟩) m d) := fun o m d => by unfold mkSl; simp only [fN_eq]
 have key : ∃ c', Rm c' (n - l) size ∧ slice2 size b o c l n = some (.slice (some ⟨b, o + l * size, none⟩) (n - l) c') := by
  obtain ⟨r1, r2, r3⟩ := hc
  unfold slice2
  rw [Nat.ble_eq_true_of_le (Nat.le_of_lt hl), Nat.ble_eq_true_of_le r2]
  cases hcs : capSure c with
  | true =>
   refine ⟨sure (capOf c - l), ⟨by omega, by rw [cap_sure.1]; omega, .inl cap_sure.2⟩, ?_⟩
   show cond (Nat.beq (capOf c) l) _ _ = _
   rw [beq_dec, decide_eq_false (by omega)]
   exact mk _ _ _
  | false =>
   rw [hcs] at r3
   have hes : esOf c = size := r3.resolve_left (by simp)
   by_cases hl0 : l = 0
   ·subst hl0
    refine ⟨c, ⟨by omega, by omega, .inr hes⟩, ?_⟩
    rw [Nat.zero_mul]
    exact mk _ _ _
   ·have h64 : capOf c < 18446744073709551616 := by unfold capOf; rw [hcs]; exact Nat.mod_lt _ (by decide)
    have hcl := cap_least (n := capOf c - l) (es := size) (by omega)
    refine ⟨least (capOf c - l) size, ⟨by omega, by rw [hcl.1]; omega, .inr hcl.2.2⟩, ?_⟩
    show cond (Nat.beq l 0) _ (cond (Nat.blt l (capOf c)) _ _) = _
    rw [beq_dec, decide_eq_false hl0, blt_dec, decide_eq_true (by omega), hes]
    show cond (Nat.beq size size) _ _ = _
    rw [Nat.beq_refl]
    exact mk _ _ _
 obtain ⟨c', h0, h1⟩ := key
 refine ⟨c', h0, fun tm hf => ?_⟩
 show xSlice X.P t (opd tm x) (some (opd tm y)) none none s = _
 rw [ev_opd hf hx, ev_opd hf hy]
 unfold xSlice
 simp only [show X.P.underlying t = _ from X.B.un ht, show sizeOfT X.P e = _ from X.B.sz he]
 show ofO (slice2 size b o c l n) s = _
 rw [h1]; rfl
end
section
variable {X : Fx} {env : Env} {df : List Deferred} {s : St} {Q : Post} {all os : List Oper} {d : Option Nat} {ty : TypeId} {pos : String} {af : Array Edge} {g : Option (Nat × Bool)}
theorem Wo.slFromR {t t0 n0 e t1 size : Nat} {z0 z : Option (List Value)} {ke : Sh} {x y : Operand} {k : IntKind} {b o n c l : Nat} (hg : wantsE all env g = some true) (ht : tk X.B.T t = some ⟨t0, n0, .sl e, z0⟩) (he : tk X.B.T e = some ⟨t1, size, ke, z⟩) (hd : dOk X d = true) (hx : ev env x = some (.slice (some ⟨b, o, none⟩) n c)) (hy : ev env y = some (.int k (.ofNat l)))
  (hc : Rm c n size) (hl : l < n) (K : ∀ c', Rm c' (n - l) size → Wo X all os (up d (.slice (some ⟨b, o + l * size, none⟩) (n - l) c') env) df s Q) : Wo X all (⟨d, .slice t x (some y) none none, ty, pos, af, g⟩ :: os) env df s Q := by
 obtain ⟨c', h1, h2⟩ := Xv.slFromR (X := X) (env := env) (s := s) ht he hx hy hc hl
 exact Wo.val hg h2 hd (K c' h1)
end
end Go.Sy
namespace Go.Proofs.YtglilbadldocoaaGreatDoor
open Go Go.Ev Go.Sy
set_option maxRecDepth 100000
structure Rc where
 k : Nat
 c : Nat
 q : Nat
 P : List Nat
 R : List Nat
 xs : List Ch
 D : List Nat
 C : List Nat
structure RcH (S : List Nat) (cb : Nat) (K : List Nat → List (List Nat)) (x : Rc) : Prop where
 bd : x.D = bdy x.k x.c x.q x.P x.R x.xs
 hP : x.P.length = 32
 hR : x.R.length = 32
 bP : ∀ y ∈ x.P, y < 256
 bR : ∀ y ∈ x.R, y < 256
 may : mayR x.k x.c x.q x.xs
 cd : x.C = cutOf (hmc S x.D) cb
 inn : x.D ∈ K x.C
 len : x.D.length + 32 ≤ 16384
 pos : 0 < x.D.length
 bD : ∀ y ∈ x.D, y < 256
def frm (x : Rc) : List Nat := fw (x.D ++ x.C)
def off (X : Nat → Rc) : Nat → Nat
 | 0 => 0
 | j + 1 => off X j + (frm (X j)).length
structure Lg (X : Nat → Rc) (M : Nat) (L : List Nat) : Prop where
 len : L.length = off X M
 at' : ∀ j, j < M → ∃ R, L.drop (off X j) = frm (X j) ++ R
def entc (X : Nat → Rc) (j : Nat) (e : Option Addr × List Ch × Nat) : List Value := rcV (X j).k (X j).c (X j).q (X j).P (X j).R (.slice e.1 e.2.1.length e.2.2) ++ ((X j).C.map nB ++ [nI (off X j), nI (off X (j + 1))])
variable {s : St} {γ c nb cb r1 n1 r2 n2 r3 n3 : Nat} {S : List Nat}
structure Sc (s : St) (X : Nat → Rc) (b γ : Nat) (B0 : List Value) (i : Nat) (t : St) (q : Option Addr) (cc γe : Nat) (E : Nat → Option Addr × List Ch × Nat) : Prop where
 kp : Kp (fun c => c = γ) s t
 bk : Rw t b B0 γ
 gw : Gw t q i cc 102 ((List.range i).map fun j => entc X j (E j)).flatten γe
 st : (i = 0 ∧ q = none) ∨ (s.nx ≤ γe ∧ γe < t.nx)
 it : ∀ j, j < i → (∀ u, Kp (fun c => c < s.nx ∨ c = γe ∨ t.nx ≤ c) t u → RcOk u (E j).1 (E j).2.1) ∧ (E j).2.1.map cv = (X j).xs.map cv
theorem entc_len {X : Nat → Rc} {j : Nat} {e : Option Addr × List Ch × Nat} (hP : (X j).P.length = 32) (hR : (X j).R.length = 32) (hC : (X j).C.length = 32) : (entc X j e).length = 102 := by
 unfold entc
 rw [List.length_append, rc_len hP hR, List.length_append, List.length_map, hC]; rfl
theorem entc_one {X : Nat → Rc} {j : Nat} {e : Option Addr × List Ch × Nat} : ∀ v ∈ entc X j e, one v = true := fun v hv => by
 unfold entc at hv
 rcases List.mem_append.1 hv with hv | hv
 ·exact rc_one v hv
 ·rcases List.mem_append.1 hv with hv | hv
  ·exact one_nB v hv
  ·simp only [List.mem_cons, List.not_mem_nil, or_false] at hv
   rcases hv with rfl | rfl <;> rfl
theorem off_le {X : Nat → Rc} {i j : Nat} (h : i ≤ j) : off X i ≤ off X j := by
 induction j with
 | zero => rw [Nat.le_zero.1 h]; exact Nat.le_refl _
 | succ j ih =>
  rcases Nat.lt_or_ge i (j + 1) with h1 | h1
  ·have := ih (by omega); show off X i ≤ off X j + _; omega
  ·rw [show i = j + 1 by omega]; exact Nat.le_refl _
theorem fillN_o {env : Env} {pl : Nat → Option (Nat × Nat)} {ps : List (Nat × Operand)} {z cs : List Value} (h : fillE pl env ps z = some cs) : fillN pl env ps z = some cs := by
 unfold fillN
 rw [h]
 exact norm_eq cs
abbrev ez : List Value := rc0 ++ ((List.replicate 32 0).map nB ++ [nI 0, nI 0])
theorem ent_fill {cs : List Value} {C : List Nat} {a e : Value} (hcs : cs.length = 68) (hC : C.length = 32) : (lov ez 0 cs).length = 102 ∧ (lov (lov ez 0 cs) 68 (C.map nB)).length = 102 ∧ (lov (lov (lov ez 0 cs) 68 (C.map nB)) 100 [a]).length = 102 ∧ lov (lov (lov (lov ez 0 cs) 68 (C.map nB)) 100 [a]) 101 [e] = cs ++ (C.map nB ++ [a, e]) := by
 have e1 : lov ez 0 cs = cs ++ ((List.replicate 32 0).map nB ++ [nI 0, nI 0]) := by
  have := lov_app (a := []) (b := rc0) (c := (List.replicate 32 0).map nB ++ [nI 0, nI 0]) (vs := cs) (o := 0) rfl (by rw [hcs]; rfl)
  rw [List.nil_append, List.nil_append] at this; exact this
 have e2 : lov (cs ++ ((List.replicate 32 0).map nB ++ [nI 0, nI 0])) 68 (C.map nB) = cs ++ (C.map nB ++ [nI 0, nI 0]) := lov_app (a := cs) (o := 68) hcs.symm (by rw [List.length_map, hC]; rfl)
 have e3 : lov (cs ++ (C.map nB ++ [nI 0, nI 0])) 100 [a] = (cs ++ C.map nB) ++ ([a] ++ [nI 0]) := by
  rw [← List.append_assoc]
  exact lov_app (a := cs ++ C.map nB) (b := [nI 0]) (c := [nI 0]) (vs := [a]) (o := 100) (by rw [List.length_append, hcs, List.length_map, hC]) rfl
 have e4 : lov ((cs ++ C.map nB) ++ ([a] ++ [nI 0])) 101 [e] = cs ++ (C.map nB ++ [a, e]) := by
  rw [← List.append_assoc]
  have := lov_app (a := (cs ++ C.map nB) ++ [a]) (b := [nI 0]) (c := []) (vs := [e]) (o := 101) (by rw [List.length_append, List.length_append, hcs, List.length_map, hC]; rfl) rfl
  rw [List.append_nil, List.append_nil] at this
  rw [this]; simp
 rw [e1, e2, e3, e4]
 refine ⟨?_, ?_, ?_, rfl⟩
 ·rw [List.length_append, hcs]; rfl
 ·rw [List.length_append, hcs, List.length_append, List.length_map, hC]; rfl
 ·rw [List.length_append, List.length_append, hcs, List.length_map, hC]; rfl
set_option maxHeartbeats 1600000 in
theorem scan_ok {b M k mm : Nat} {X : Nat → Rc} {L D : List Nat} {K : List Nat → List (List Nat)} {CC : Nat → Prop} {ql : Option Addr} {δ : Nat} (w0 : Wf s) (hL : Lg X M L) (hX : ∀ j, j < M → RcH S cb K (X j)) (hk : k ≤ L.length) (hD : D = L.take k) (hLl : L.length < 2 ^ 40) (hM : M ≤ 30) (hq : 0 < D.length → ∃ bL, ql = some ⟨bL, 0, none⟩ ∧ Sl s ql (D.map nB) δ ∧ δ ≠ γ ∧ Rm c D.length 1)
  (hbk : Rw s b (bkT nb cb S (bl 0 r1 n1 r2 n2 r3 n3)) γ) (hNt : Nt s r2 K CC mm) (hr : r2 ≠ γ) (hCg : ¬ CC γ) (hmm : mm < 2 ^ 60) (hS : S.length = 32) (hSb : ∀ x ∈ S, x < 256) (hcb : cb ≤ 256) (hT : ∀ s', Kp (fun c => c = γ) s s' → TabAt s') :
  Cl B (.call 9 [.pointer (some ⟨b, 0, none⟩), .slice ql D.length c]) s fun v s' => ∃ i q cc γe E, i ≤ M ∧ off X i ≤ k ∧ (off X i = k ∨ (i < M ∧ k < off X (i + 1))) ∧ v = .tuple ⟨[.slice q i cc, nI (if off X i = k then 0 else 91)]⟩ ∧ Sc s X b γ (bkT nb cb S (bl 0 r1 n1 r2 n2 r3 n3)) i s' q cc γe E := by
 have hDl : D.length = k := by rw [hD, List.length_take]; omega
 refine Cl.enter Tryz.f9 fn9 rfl rfl rfl ?_
 refine run1 ?_
 refine Wo.val rfl (Xv.pEq rfl rfl rfl) rfl (run1 ?_)
 refine W.loop (α := Nat × Option Addr × Nat × St) (fun a => [(0, .pointer (some ⟨b, 0, none⟩)), (1, .slice ql D.length c), (6, .slice a.2.1 a.1 a.2.2.1), (7, nI (off X a.1))]) (fun _ => []) (fun a => a.2.2.2)
  (fun y => y.1 ≤ M ∧ off X y.1 ≤ k ∧ ∃ γe E, Sc s X b γ (bkT nb cb S (bl 0 r1 n1 r2 n2 r3 n3)) y.1 y.2.2.2 y.2.1 y.2.2.1 γe E) (fun a => M - a.1) (0, none, 0, s) ⟨Nat.zero_le _, Nat.zero_le _, 0, fun _ => (none, [], 0), .refl, hbk, .nil, .inl ⟨rfl, rfl⟩, fun j hj => absurd hj (Nat.not_lt_zero _)⟩ (.cons rfl (.cons rfl (.cons rfl (.cons rfl .nil)))) rfl rfl (by show M - 0 < _; omega) ?_
 rintro ⟨i, q, cc, t⟩ ⟨i1, i2, γe, E, I⟩
 simp only at i1 i2 I
 dsimp only
 have wt : Wf t := I.kp.wf w0
 have et := I.kp.le
 have hgl := hbk.lt w0
 by_cases hlt : off X i < D.length
 ·obtain ⟨bL, rfl, hsl, hδ, hrm⟩ := hq (by omega)
  have hiM : i < M := by
   rcases Nat.lt_or_ge i M with h | h
   ·exact h
   ·have := off_le (X := X) h; have := hL.len; omega
  have H := hX i hiM
  have hlen16 := H.len
  have hCl : (X i).C.length = 32 := by rw [H.cd]; exact ctN_length.trans hmc_length
  have hCb : ∀ y ∈ (X i).C, y < 256 := by rw [H.cd]; exact ctN_byte sumN_byte
  have hAl : ((X i).D ++ (X i).C).length = (X i).D.length + 32 := by rw [List.length_append, hCl]
  have hfl : (frm (X i)).length = 7 + ((X i).D.length + 32) := by unfold frm fw; rw [List.length_append, hAl]; rfl
  obtain ⟨R, hR⟩ := hL.at' i hiM
  have hst : Sl t (some ⟨bL, 0, none⟩) (D.map nB) δ := hsl.kp w0 I.kp hδ
  refine run1 ?_
  refine Wo.slFromR rfl rfl rfl rfl rfl rfl hrm hlt fun c1 hc1 => ?_
  obtain ⟨o1, ho1⟩ : ∃ o, o = 0 + off X i * 1 := ⟨_, rfl⟩
  rw [← ho1]
  obtain ⟨D1, hD1⟩ : ∃ D', D' = D.drop (off X i) := ⟨_, rfl⟩
  have hD1l : D1.length = D.length - off X i := by rw [hD1, List.length_drop]
  have hD1e : D1 = (frm (X i) ++ R).take (k - off X i) := by rw [hD1, hD, List.drop_take, hR]
  have hat : At t (some ⟨bL, o1, none⟩) (D1.map nB) := by
   have := hst.at.drop (n := off X i) (by rw [List.length_map]; omega)
   rw [ho1, Nat.mul_one, hD1, List.map_drop]; exact this
  rw [← hD1l] at hc1 ⊢
  refine run1 ?_
  by_cases hfit : off X (i + 1) ≤ k
  ·have hoff : off X (i + 1) = off X i + (frm (X i)).length := rfl
   have hsplit : D1 = fw ((X i).D ++ (X i).C) ++ R.take (k - off X i - (frm (X i)).length) := by
    rw [hD1e, List.take_append, List.take_of_length_le (by omega)]; rfl
   refine Wo.call rfl (Xc.call ok21 rfl) rfl ((first_ok wt hsplit hat (by omega) (by rw [hAl]; exact H.len) hc1 (by omega)).mono ?_)
   rintro v t1 ⟨bp, γp, rfl, rp, lp, g1⟩
   have wt1 := g1.wf wt
   have h00 : ¬ (0 : Nat) ≠ 0 := fun h => h rfl
   have k1 : Kp (fun c => c = γ) s t1 := I.kp.trans (g1.w)
   refine run1 ?_
   refine Wo.call rfl (Xc.call ok22 rfl) rfl ((read_ex (mm := mm) wt1 rp.ats (fun x hx => (List.mem_append.1 hx).elim (H.bD x) (hCb x)) ⟨by omega, by rw [cap_sure.1]; exact Nat.le_refl _, .inl cap_sure.2⟩ (by omega) rfl H.pos H.bd H.hP H.hR H.bP H.bR H.may (I.bk.kp wt g1 id) (hNt.kp w0 k1 hr (fun c hc e => hCg (e ▸ hc))) hr hCg hmm hS hSb hcb H.cd H.inn (fun s' k' => hT s' (k1.trans k')) (fun δ' h' => by have := rw_col rp h'; omega)).mono ?_)
   rintro v t2 ⟨Q, xs, rr, rfl, hrcK, hcv, bk2, g2⟩
   have wt2 := g2.wf wt1
   obtain ⟨cs, hcsE⟩ : ∃ cs, cs = rcV ((X i).k : Int) ((X i).c : Int) ((X i).q : Int) (X i).P (X i).R (.slice Q xs.length rr) := ⟨_, rfl⟩
   have hcs : cs.length = 68 := by rw [hcsE]; exact rc_len H.hP H.hR
   have hone : ∀ v ∈ cs, one v = true := by rw [hcsE]; exact rc_one
   rw [← hcsE]
   refine run1 ?_
   refine mk_gen (s := mkRow t2 rc0) (cs := (List.replicate 32 0).map nB) (M := fun s' => Wo _ _ _ _ _ s' _) fun t4 r12 n4 g4 => ?_
   have wm := mkRow_wf (cs := rc0) wt2
   have r11 : Rw t4 t2.nx rc0 t2.nx := mkRow_rw.kp wm g4 id
   have r12 : Rw t4 (t2.nx + 1) ((List.replicate 32 0).map nB) (t2.nx + 1) := r12
   have n4 : t4.nx = t2.nx + 1 + 1 := n4
   have g24 : Kn t2 t4 := mkRow_kn.call g4
   have wt4 := g24.wf wt2
   refine Wo.st rfl rfl rfl rfl rfl rfl hcs hone r11 (by decide) fun t5 p5 m5 g5 => ?_
   rw [lov_all (by rw [hcs]; rfl)] at p5
   have wt5 := g5.wf wt4
   refine run1 ?_
   refine Wo.st rfl rfl rfl rfl rfl rfl (by rw [List.length_map, hCl]) one_nB (r12.kp wt4 g5 (by omega)) (by decide) fun t6 p6 m6 g6 => ?_
   rw [lov_all (by rw [List.length_map, hCl]; rfl)] at p6
   have wt6 := g6.wf wt5
   have p56 := p5.kp wt5 g6 (by omega)
   have g26 : Kn t2 t6 := (g24.app g5 (Nat.le_refl _)).app g6 (by omega)
   have l11 := p56.all (n := 68) hcs (by decide)
   have l12 := p6.all (n := 32) (by rw [List.length_map, hCl]) (by decide)
   refine run1 ?_
   have hoE : off X i + (7 + ((X i).D ++ (X i).C).length) = off X (i + 1) := by show _ = off X i + (frm (X i)).length; rw [hfl, hAl]
   rw [hoE]
   obtain ⟨f1, f2, f3, f4⟩ := ent_fill (a := nI (off X i)) (e := nI (off X (i + 1))) hcs hCl
   have hen : cs ++ ((X i).C.map nB ++ [nI (off X i), nI (off X (i + 1))]) = entc X i (Q, xs, rr) := by rw [hcsE]; rfl
   refine Wo.val rfl (Xv.buildE (cs := entc X i (Q, xs, rr)) rfl ?_) rfl ?_
   ·refine fill_cons (vs := cs) rfl rfl rfl hcs hone (by decide) ?_
    refine fill_cons (vs := (X i).C.map nB) rfl rfl rfl (by rw [List.length_map, hCl]) one_nB (by show 68 + 32 ≤ (lov ez 0 cs).length; rw [f1]; decide) ?_
    refine fill_cons (vs := [nI (off X i)]) rfl rfl cellsL_int rfl (one1 rfl) (by show 100 + 1 ≤ (lov (lov ez 0 cs) 68 _).length; rw [f2]; decide) ?_
    refine fill_cons (vs := [nI (off X (i + 1))]) rfl rfl cellsL_int rfl (one1 rfl) (by show 101 + 1 ≤ (lov (lov (lov ez 0 cs) 68 _) 100 _).length; rw [f3]; decide) ?_
    show some (lov (lov (lov (lov ez 0 cs) 68 _) 100 _) 101 _) = _
    rw [f4, hen]
   have henl : (entc X i (Q, xs, rr)).length = 102 := entc_len H.hP H.hR hCl
   obtain ⟨en, hene⟩ : ∃ e, e = entc X i (Q, xs, rr) := ⟨_, rfl⟩
   have heno : ∀ v ∈ en, one v = true := by rw [hene]; exact entc_one
   rw [← hene] at henl ⊢
   refine Wo.val rfl (Xv.bsl (cs := en) rfl rfl rfl (fillN_o (fill_cons (vs := en) rfl rfl rfl henl heno (by decide) (congrArg some (lov_all (by rw [henl]; rfl)))))) rfl ?_
   refine mkO (cs := en) fun t7 p7 m7 g7 => ?_
   have wt7 := g7.wf wt6
   have g27 : Kn t2 t7 := g26.call g7
   have k27 : Kp (fun c => c = γ) t t7 := ((g1.w).trans g2).trans (g27.w)
   have e1 := g1.le
   have e2 := g2.le
   have e27 := g27.le
   have hgt : γ < s.nx := hgl.2
   have e67 := g7.le
   have e26 := g26.le
   obtain ⟨γ0, hgw, hγt, hγs, hγ0⟩ : ∃ γ0, Gw t7 q i cc 102 ((List.range i).map fun j => entc X j (E j)).flatten γ0 ∧ γ0 < t7.nx ∧ s.nx ≤ γ0 ∧ ((γ0 = γe ∧ γe < t.nx) ∨ t2.nx ≤ γ0) := by
    rcases I.st with ⟨h1, h2⟩ | ⟨c1, c2⟩
    ·have hc0 : cc = 0 := by
      rcases I.gw.at' with ⟨_, _, h⟩ | ⟨_, _, h, _⟩
      ·exact h
      ·rw [h2] at h; cases h
     subst h1 h2 hc0
     exact ⟨t6.nx, .nil, by omega, by omega, .inr e26⟩
    ·exact ⟨γe, I.gw.kp wt k27 (by omega), by omega, c1, .inl ⟨rfl, c2⟩⟩
   refine Wo.app rfl rfl rfl rfl rfl rfl rfl rfl rfl wt7 hgw rfl (cells_at (k := 1) (size := 102) p7.ats henl (by decide)) henl heno rfl (by omega) (by omega) ?_
   intro qn cn γn ta a1 a2 a3
   have wta := a2.wf wt7
   have ea := a2.le
   have hγa : γn < ta.nx := by
    refine a1.ltq wta ?_
    rintro rfl
    rcases a1.at' with ⟨_, h, _⟩ | ⟨_, _, h, _⟩ <;> cases h
   have hγn : γn = γ0 ∨ t7.nx ≤ γn := by rcases a3 with h | ⟨h, _⟩ <;> omega
   refine run1 ?_
   rw [hoE]
   refine rnd.n (i + 1, qn, cn, ta) ⟨hiM, hfit, γn, fun j => if j = i then (Q, xs, rr) else E j, ⟨?_, ?_, ?_, .inr ⟨by show s.nx ≤ γn; omega, hγa⟩, fun j hj => ?_⟩⟩ (by show M - (i + 1) < M - i; omega) (.cons rfl (.cons rfl (.cons rfl (.cons rfl .nil)))) rfl rfl
   ·exact KpW (I.kp.trans k27) a2 (fun c h => by omega)
   ·exact (bk2.kp wt2 g27 id).kp wt7 a2 (by omega)
   ·show Gw ta qn (i + 1) cn 102 ((List.range (i + 1)).map fun j => entc X j (if j = i then (Q, xs, rr) else E j)).flatten γn
    have hm : ((List.range i).map fun j => entc X j (if j = i then (Q, xs, rr) else E j)) = (List.range i).map fun j => entc X j (E j) := List.map_congr_left fun j hj => by
     rw [if_neg (by have := List.mem_range.1 hj; omega)]
    rw [List.range_succ, List.map_append, hm, List.flatten_append, show (([i].map fun j => entc X j (if j = i then (Q, xs, rr) else E j)).flatten) = en by rw [hene]; simp]
    exact a1
   ·show (∀ u, Kp (fun c => c < s.nx ∨ c = γn ∨ ta.nx ≤ c) ta u → RcOk u (if j = i then (Q, xs, rr) else E j).1 (if j = i then (Q, xs, rr) else E j).2.1) ∧ (if j = i then (Q, xs, rr) else E j).2.1.map cv = _
    by_cases hji : j = i
    ·subst hji
     rw [if_pos rfl]
     exact ⟨fun u ku => hrcK u (((g27.w).trans (a2.mono fun c h => by omega)).trans (ku.mono fun c h => by omega)), hcv⟩
    ·rw [if_neg hji]
     have hj' : j < i := by have hj : j < i + 1 := hj; omega
     refine ⟨fun u ku => (I.it j hj').1 u (((k27.mono fun c h => ?_).trans (a2.mono fun c h => ?_)).trans (ku.mono fun c h => ?_)), (I.it j hj').2⟩
     ·omega
     ·omega
     ·omega
  ·have hrest : ∃ R, R ≠ [] ∧ fw ((X i).D ++ (X i).C) = D1 ++ R := by
    have hoff : off X (i + 1) = off X i + (frm (X i)).length := rfl
    refine ⟨(frm (X i)).drop (k - off X i), fun e => ?_, ?_⟩
    ·have := congrArg List.length e
     rw [List.length_drop, List.length_nil] at this
     omega
    ·rw [hD1e, List.take_append_of_le_length (by omega), List.take_append_drop]; rfl
   refine Wo.call rfl (Xc.call ok21 rfl) rfl ((first_cut wt hat (by omega) hrest (by rw [hAl]; exact H.len) hc1).mono ?_)
   rintro v t1 ⟨rfl, g1⟩
   have wt1 := g1.wf wt
   have h910 : (91 : Nat) ≠ 0 := by decide
   refine run1 ?_
   have hne : ¬ off X i = k := by omega
   have I1 : Sc s X b γ (bkT nb cb S (bl 0 r1 n1 r2 n2 r3 n3)) i t1 q cc γe E := ⟨I.kp.trans (g1.w), I.bk.kp wt g1 id, I.gw.kp wt g1 id, I.st.imp id (fun h => ⟨h.1, Nat.lt_of_lt_of_le h.2 g1.le⟩), fun j hj => ⟨fun u ku => (I.it j hj).1 u ((g1.w).trans (ku.mono fun c h => h.imp id fun h => h.imp id fun h => Nat.le_trans g1.le h)), (I.it j hj).2⟩⟩
   refine Lv.ret rfl ⟨i, q, cc, γe, E, i1, i2, .inr ⟨hiM, by omega⟩, ?_, I1⟩
   rw [if_neg hne]; rfl
 ·have hie : off X i = k := by omega
  refine run1 ?_
  refine Lv.ret rfl ⟨i, q, cc, γe, E, i1, i2, .inl hie, ?_, I⟩
  rw [if_pos hie]; rfl
end Go.Proofs.YtglilbadldocoaaGreatDoor
namespace Go.Sy
open Go Go.Ev
def Mp0 (s : St) (r c : Nat) : Prop := s.hp.get r = some (.map [] c)
def Itr0 (s : St) (b r c : Nat) : Prop := s.hp.get b = some (.iter (some r) c [] c)
theorem Mp.zero {s : St} {r : Nat} (h : Mp s r []) : ∃ c, Mp0 s r c := by
 obtain ⟨l, c, h1, h2, h3, _⟩ := h
 rw [List.map_eq_nil_iff.1 h2] at h1
 exact ⟨c, h1⟩
section
variable {X : Fx} {env : Env} {s : St}
theorem Xv.rng0 {t t0 n0 key elt r c : Nat} {z0 : Option (List Value)} {x : Operand} (ht : tk X.B.T t = some ⟨t0, n0, .mp key elt, z0⟩) (hx : ev env x = some (.map (some r))) (hm : Mp0 s r c) :
  ∃ s', Xv X (.range t x) env s (.pointer (some ⟨s.nx, 0, none⟩)) s' ∧ Itr0 s' s.nx r c ∧ s'.nx = s.nx + 1 ∧ Kn s s' := by
 refine ⟨.mk (s.hp.set (.iter (some r) c [] c) s.nx) (s.nx + 1) s.gr, fun tm hf => ?_, ?_, rfl, Kn.new fun _ _ e => by cases e⟩
 ·have hu : X.P.underlying t = some (.map key elt) := X.B.un ht
  show xRange X.P t (opd tm x) s = _
  rw [ev_opd hf hx]
  obtain ⟨hp, nx, gr⟩ := s
  unfold xRange
  simp only [hu, show hp.get r = _ from hm]
  rw [newO_ok]; rfl
 ·show (s.hp.set _ s.nx).get s.nx = _
  rw [get_set', if_pos rfl]
theorem Xv.nxtN {b r c : Nat} {x : Operand} (hx : ev env x = some (.pointer (some ⟨b, 0, none⟩))) (hm : Mp0 s r c) (hi : Itr0 s b r c) : Xv X (.next x false) env s (.tuple ⟨[.bool false]⟩) s := fun tm hf => by
 show xNext (opd tm x) false s = _
 rw [ev_opd hf hx]
 obtain ⟨hp, nx, gr⟩ := s
 unfold xNext
 simp only [show hp.get b = _ from hi, show hp.get r = _ from hm]
 rfl
theorem Xv.ixS0 {t : TypeId} {x y : Operand} {u : ByteArray} {k : IntKind} {n : Int} (hx : ev env x = some (.string u)) (hy : ev env y = some (.int k n)) (hp : pureRun X.P (Instr.index t (.string u) (.int k n)) = some (.int .u8 0)) : Xv X (.index t x y) env s (.int .u8 0) s := fun tm hf => by
 show xIndex X.P t (opd tm x) (opd tm y) s = _
 rw [ev_opd hf hx, ev_opd hf hy]
 show ofPure X.P (Instr.index t (.string u) (.int k n)) s = _
 unfold ofPure
 rw [hp]
 rfl
end
section
variable {X : Fx} {env : Env} {df : List Deferred} {s : St} {Q : Post} {all os : List Oper} {d : Option Nat} {ty : TypeId} {pos : String} {af : Array Edge} {g : Option (Nat × Bool)}
theorem Wo.rng0 {t t0 n0 key elt r c : Nat} {z0 : Option (List Value)} {x : Operand} (hg : wantsE all env g = some true) (hd : dOk X d = true) (ht : tk X.B.T t = some ⟨t0, n0, .mp key elt, z0⟩) (hx : ev env x = some (.map (some r))) (hm : Mp0 s r c)
  (K : ∀ s', Itr0 s' s.nx r c → s'.nx = s.nx + 1 → Kn s s' → Wo X all os (up d (.pointer (some ⟨s.nx, 0, none⟩)) env) df s' Q) : Wo X all (⟨d, .range t x, ty, pos, af, g⟩ :: os) env df s Q := by
 obtain ⟨s', a, b, c, e⟩ := Xv.rng0 (X := X) (env := env) ht hx hm
 exact Wo.val hg a hd (K s' b c e)
end
end Go.Sy
namespace Go.Proofs.YtglilbadldocoaaGreatDoor
open Go Go.Ev Go.Sy
set_option maxRecDepth 100000
variable {s : St} {q : Option Addr} {c γ nb cb r1 n1 r2 n2 r3 n3 : Nat} {S : List Nat}
set_option maxHeartbeats 4000000 in
theorem len640_ok : Cl B (.call 86 [.int .u64 0]) s fun v s' => (∃ z, v = .int .i64 z) ∧ s' = s := by
 refine Cl.enter Tryz.f86 fn86 rfl rfl rfl ?_
 have h1 : ¬ 4294967296 ≤ 0 := by decide
 have h2 : ¬ 65536 ≤ 0 := by decide
 have h3 : ¬ 256 ≤ 0 := by decide
 refine run1 ?_
 refine Wo.val rfl (Xv.ixS0 rfl rfl (by kernel_rfl)) rfl (run1 ?_)
 exact Lv.ret rfl ⟨⟨_, rfl⟩, rfl⟩
theorem blen0_ok : Cl B (.call 48 [.int .u64 0]) s fun v s' => (∃ z, v = .int .i64 z) ∧ s' = s := by
 refine Cl.enter Tryz.f48 fn48 rfl rfl rfl ?_
 refine run1 ?_
 refine Wo.call rfl (Xc.call ok86 rfl) rfl (len640_ok.mono ?_)
 rintro v s' ⟨⟨z, rfl⟩, e'⟩; rw [e']; clear e' s'
 refine run1 ?_
 exact Lv.ret rfl ⟨⟨z, rfl⟩, rfl⟩
theorem isort0_ok {f : Value} : Cl B (.call 77 [.slice q 0 c, nI 0, nI 0, f]) s fun _ s' => s' = s := by
 refine Cl.enter Tryz.f77 fn77 rfl rfl rfl ?_
 refine run1 ?_
 refine W.loop (α := Unit) (fun _ => [(2, nI 0), (8, nI (0 + 1))]) (fun _ => []) (fun _ => s) (fun _ => True) (fun _ => 0) () trivial (.cons rfl (.cons rfl .nil)) rfl rfl (by decide) ?_
 rintro ⟨⟩ _
 have h : ¬ 0 + 1 < 0 := by decide
 refine run1 ?_
 exact Lv.nrm rfl rfl
theorem pdq0_ok {f : Value} {z : Int} : Cl B (.call 47 [.slice q 0 c, nI 0, nI 0, .int .i64 z, f]) s fun _ s' => s' = s := by
 refine Cl.enter Tryz.f47 fn47 rfl rfl rfl ?_
 refine run1 ?_
 refine W.loop (α := Unit) (fun _ => [(0, .slice q 0 c), (1, nI 0), (2, nI 0), (4, f)]) (fun _ => []) (fun _ => s) (fun _ => True) (fun _ => 0) () trivial (.cons rfl (.cons rfl (.cons rfl (.cons rfl .nil)))) rfl rfl (by decide) ?_
 rintro ⟨⟩ _
 have h : 0 - 0 ≤ 12 := by decide
 refine run1 ?_
 refine Wo.call rfl (Xc.call ok77 rfl) rfl (isort0_ok.mono ?_)
 rintro v s' e'; rw [e']; clear e' s'
 refine run1 ?_
 exact Lv.ret rfl rfl
theorem sort0_ok {f : Value} : Cl B (.call 26 [.slice q 0 c, f]) s fun _ s' => s' = s := by
 refine Cl.enter Tryz.f26 fn26 rfl rfl rfl ?_
 refine run1 ?_
 refine Wo.call rfl (Xc.call ok48 rfl) rfl (blen0_ok.mono ?_)
 rintro v s' ⟨⟨z, rfl⟩, e'⟩; rw [e']; clear e' s'
 refine run1 ?_
 refine Wo.call rfl (Xc.call ok47 rfl) rfl (pdq0_ok.mono ?_)
 rintro v s' e'; rw [e']; clear e' s'
 refine run1 ?_
 exact Lv.nrm rfl rfl
theorem forg0_ok {b : Nat} (w0 : Wf s) (hB : Rw s b (bkT nb cb S (bl 0 r1 n1 r2 n2 r3 n3)) γ) (hS : S.length = 32) (hM3 : Mp s r3 []) (hr : r3 ≠ γ) : Cl B (.call 10 [.pointer (some ⟨b, 0, none⟩)]) s fun v s' => v = .slice none 0 0 ∧ Kp (fun c => c = γ) s s' := by
 obtain ⟨cm, hM⟩ := Mp.zero hM3
 refine Cl.enter Tryz.f10 fn10 rfl rfl rfl ?_
 have gd : good (some ⟨b, 0, none⟩) := good_b
 refine run1 ?_
 refine Wo.val rfl (Xv.pEq rfl rfl rfl) rfl (run1 ?_)
 refine Wo.val rfl (Xv.nilC rfl) rfl (run1 ?_)
 refine Wo.call rfl (Xc.call ok23 rfl) rfl ((lock_ok (o := 34) w0 hB (by rw [show 34 = 34 + 0 from rfl, bkT_at hS]; rfl)).mono ?_)
 rintro v s2 ⟨b2, m2, k2⟩
 rw [show lov (bkT nb cb S (bl 0 r1 n1 r2 n2 r3 n3)) 34 [Value.int .i32 1] = bkT nb cb S (bl 1 r1 n1 r2 n2 r3 n3) from bkT_set (i := 0) hS (show 0 < 8 by decide)] at b2
 have w2 : Wf s2 := k2.wf w0
 refine run1 ?_
 refine Wo.val rfl (Xv.nilC rfl) rfl (run1 ?_)
 refine Wo.dfr rfl rfl rfl ?_
 refine run1 ?_
 refine Wo.val rfl (Xv.nilC rfl) rfl (run1 ?_)
 have M2 : Mp0 s2 r3 cm := k2.kp w0 r3 _ hM (by exact hr)
 have g40 : good (qadd (some ⟨b, 0, none⟩) 40) := good_b
 have l40 : ldq s2 (qadd (qadd (some ⟨b, 0, none⟩) 40) 0) = some (.map (some r3)) := b2.f1 (show (bkT nb cb S (bl 1 r1 n1 r2 n2 r3 n3))[40]? = some (.map (some r3)) by rw [show 40 = 34 + 6 from rfl, bkT_at hS]; rfl)
 refine run1 ?_
 refine Wo.rng0 rfl rfl rfl rfl M2 fun s3 it3 n3' k3 => ?_
 have w3 := k3.wf w2
 obtain ⟨bi, hbi⟩ : ∃ b, b = s2.nx := ⟨_, rfl⟩
 rw [← hbi] at it3 ⊢
 have M3 : Mp0 s3 r3 cm := k3.kp w2 r3 _ M2 id
 refine run1 ?_
 refine W.loop (α := Unit) (fun _ => [(3, .slice none 0 0), (22, .pointer (some ⟨bi, 0, none⟩))]) (fun _ => [⟨.fn (.func 24) #[], ⟨[.pointer (some ⟨b, 34, none⟩)]⟩⟩]) (fun _ => s3) (fun _ => True) (fun _ => 0) () trivial (.cons rfl (.cons rfl .nil)) rfl rfl (by decide) ?_
 rintro ⟨⟩ _
 refine run1 ?_
 refine Wo.val rfl (Xv.nxtN rfl M3 it3) rfl (run1 ?_)
 refine Wo.call rfl (Xc.call ok26 rfl) rfl (sort0_ok.mono ?_)
 rintro v s' e'; rw [e']; clear e' s'
 have b3 := b2.kp w2 k3 id
 refine run1 ?_
 refine Lv.retD (show 1 ≤ 100 by decide) ⟨by kernel_rfl, Cl.toLate rfl ((unlock_ok (o := 34) b3 (by rw [show 34 = 34 + 0 from rfl, bkT_at hS]; rfl)).mono ?_)⟩
 rintro v s8 ⟨b8, m8, k8⟩
 exact ⟨[.slice none 0 0], rfl, rfl, (k2.trans (k3.w)).trans k8⟩
end Go.Proofs.YtglilbadldocoaaGreatDoor
namespace Go.Sy
open Go Go.Ev
section
variable {X : Fx} {env : Env} {df : List Deferred} {s : St} {Q : Post} {all os : List Oper} {d : Option Nat} {ty : TypeId} {pos : String} {af : Array Edge} {g : Option (Nat × Bool)}
theorem Wo.apz {x y : Operand} {t u e n0 nu size : Nat} {z0 zu : Option (List Value)} {z : List Value} {t0 t1 tu : Nat} {ke ku : Sh} (hgd : wantsE all env g = some true) (ht : tk X.B.T t = some ⟨t0, n0, .sl e, z0⟩) (he : tk X.B.T e = some ⟨t1, size, ke, some z⟩) (hu : tk X.B.T u = some ⟨tu, nu, ku, zu⟩) (hn : notI ku = true) (h0 : Nat.blt 0 size = true) (hd : dOk X d = true)
  {q : Option Addr} {n c : Nat} {v : Value} {γ k : Nat} {cs new : List Value} (hx : ev env x = some (.slice q n c)) (hy : ev env y = some v) (w : Wf s) (hg : Gw s q n c size cs γ) (hq : 0 < n ∨ q = none) (hk : lenOfV v = some k) (hv : cellsFrom s size k v = some new) (hl : new.length = k * size) (h1 : ∀ v ∈ new, one v = true) {y0 : Nat} (hV : lkV X.B.V e = some y0) (hr : (5 * (n + k) + 3072) * y0 ≤ 1125899906842624) (hb : n + k ≤ 4611686018427387904) (hk0 : 0 < k)
  (K : ∀ q' c' γ' s', Gw s' q' (n + k) c' size (cs ++ new) γ' → Kp (fun x => 0 < n ∧ x = γ) s s' → ((0 < n ∧ γ' = γ) ∨ s.nx ≤ γ') → γ' < s'.nx → q' ≠ none → Wo X all os (up d (.slice q' (n + k) c') env) df s' Q) :
  Wo X all (⟨d, .call ⟨.builtin .append, #[x, y], #[t, u]⟩, ty, pos, af, g⟩ :: os) env df s Q := by
 have nn : ∀ {q' : Option Addr} {c' γ' : Nat} {s' : St}, Gw s' q' (n + k) c' size (cs ++ new) γ' → q' ≠ none := fun h e => by
  rcases h.at' with ⟨_, h, _⟩ | ⟨_, _, h, _⟩
  ·omega
  ·rw [e] at h; cases h
 by_cases hn0 : 0 < n
 ·refine Wo.app hgd ht he hu hn h0 hd hx hy w hg hk hv hl h1 hV hr hb fun q' c' γ' s' a b c => K q' c' γ' s' a (b.mono fun x h => ⟨hn0, h⟩) ?_ (a.ltq (b.wf w) (nn a)) (nn a)
  rcases c with c | ⟨c, _⟩
  ·exact .inl ⟨hn0, c⟩
  ·exact .inr (Nat.le_of_eq c.symm)
 ·refine Wo.appN hgd ht he hu hn h0 hd hx hy w hg hk hv hl h1 hV hr hb (.inl (hq.resolve_left hn0)) hk0 fun q' c' s' a b => K q' c' s.nx s' a (b.w) (.inr (Nat.le_refl _)) (a.ltq (b.wf w) (nn a)) (nn a)
end
end Go.Sy
namespace Go.Proofs.YtglilbadldocoaaGreatDoor
open Go Go.Ev Go.Sy
set_option maxRecDepth 100000
structure Ag where
 k : Int
 c : Int
 q : Int
 P : List Nat
 R : List Nat
 Q : Option Addr
 xs : List Ch
 C : Nat
def agc (a : Ag) : List Value := rcV a.k a.c a.q a.P a.R (.slice a.Q a.xs.length a.C)
structure AgOk (s : St) (a : Ag) : Prop where
 hP : a.P.length = 32
 hR : a.R.length = 32
 bP : ∀ y ∈ a.P, y < 256
 bR : ∀ y ∈ a.R, y < 256
 rc : RcOk s a.Q a.xs
 sl : ∀ x ∈ a.xs, SlOk x.kv x.k ∧ SlOk x.vv x.v
def mdc (X : Nat → Rc) (j : Nat) (e : Option Addr × Nat) : List Value := rcV (X j).k (X j).c (X j).q (X j).P (X j).R (.slice e.1 (X j).xs.length e.2)
def chg (b r2 : Nat) (C : Nat → Prop) (i gL gT gD gR N : Nat) (c : Nat) : Prop := c = b ∨ c = r2 ∨ C c ∨ (0 < i ∧ (c = gL ∨ c = gT ∨ c = gD ∨ c = gR)) ∨ N ≤ c
structure Cok (s t : St) (b r2 r3 : Nat) (C : Nat → Prop) (i g : Nat) : Prop where
 lt : g < t.nx
 nC : ¬ C g
 nb : g ≠ b
 n2 : g ≠ r2
 n3 : g ≠ r3
 ge : 0 < i → s.nx ≤ g
structure Wl (s : St) (cb b r1 r2 r3 : Nat) (i : Nat) (t : St) (X : Nat → Rc) (E : Nat → Option Addr × Nat) (L : List Nat) (qL qT qD qR : Option Addr) (cL cT cD cR gL gT gD gR n2 : Nat) (K : List Nat → List (List Nat)) (C : Nat → Prop) : Prop where
 kp : Kp (fun c => s.nx ≤ c) s t
 bk : Rw t b (bkT 256 cb S0 (bl 0 r1 0 r2 n2 r3 0)) b
 nt : Nt t r2 K C i
 m3 : Mp t r3 []
 nb : ¬ C b ∧ ¬ C r2 ∧ ¬ C r3
 cg : ∀ c, C c → s.nx ≤ c
 le : n2 ≤ i
 hL : Gw t qL L.length cL 1 (L.map nB) gL
 hT : Gw t qT i cT 32 ((List.range i).map fun j => (X j).C.map nB).flatten gT
 hD : Gw t qD i cD 1 ((List.range i).map fun j => nI (off X (j + 1))) gD
 hR : Gw t qR i cR 68 ((List.range i).map fun j => mdc X j (E j)).flatten gR
 oL : Cok s t b r2 r3 C i gL
 oT : Cok s t b r2 r3 C i gT
 oD : Cok s t b r2 r3 C i gD
 oR : Cok s t b r2 r3 C i gR
 ne : 0 < i → gL ≠ gT ∧ gL ≠ gD ∧ gL ≠ gR ∧ gT ≠ gD ∧ gT ≠ gR ∧ gD ≠ gR
 ze : (0 < i ∧ 0 < L.length) ∨ (i = 0 ∧ L = [] ∧ qL = none ∧ qT = none ∧ qD = none ∧ qR = none)
 it : ∀ j, j < i → ∀ u, Kp (chg b r2 C i gL gT gD gR t.nx) t u → RcOk u (E j).1 (X j).xs
 hX : ∀ j, j < i → RcH S0 cb K (X j)
 lg : Lg X i L
end Go.Proofs.YtglilbadldocoaaGreatDoor
