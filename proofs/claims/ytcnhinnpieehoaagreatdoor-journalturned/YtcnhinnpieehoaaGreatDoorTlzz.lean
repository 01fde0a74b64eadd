import Derived.Test.YtcnhinnpieehoaaGreatDoorReazz
import Derived.Test.YtcnhinnpieehoaaGreatDoorFozz
import Derived.Test.YtcnhinnpieehoaaGreatDoorJyzz
namespace Go.Proofs.YtcnhinnpieehoaaGreatDoor
open Go Go.Ev Go.Sy
set_option maxRecDepth 100000
variable {s : St}
theorem cv_mem {xs ys : List Ch} (h : ys.map cv = xs.map cv) {y : Ch} (hy : y ∈ ys) : ∃ x ∈ xs, y.k = x.k ∧ y.v = x.v ∧ y.g = x.g := by
 have : cv y ∈ xs.map cv := by rw [← h]; exact List.mem_map_of_mem hy
 obtain ⟨x, hx, e⟩ := List.mem_map.1 this
 unfold cv at e
 injection e with e1 e2
 injection e2 with e2 e3
 exact ⟨x, hx, e1.symm, e2.symm, e3.symm⟩
theorem mayR_cv {k c q : Int} {xs ys : List Ch} (h : ys.map cv = xs.map cv) (hm : mayR k c q xs) : mayR k c q ys := by
 have hl : ys.length = xs.length := by have := congrArg List.length h; simpa using this
 obtain ⟨h1, h2, h3, h4, h5⟩ := hm
 refine ⟨by rw [hl]; exact h1, h2, h3, h4, fun y hy => ?_⟩
 obtain ⟨x, hx, e1, e2, e3⟩ := cv_mem h hy
 have := h5 x hx
 unfold chM at this ⊢
 rw [e1, e2, e3]; exact this
theorem turned {A H : List Nat} {j x : Nat} (hj : j < A.length + H.length) (hx : x ≠ (A ++ H).getD j 0) :
  (((A ++ H).set j x).drop A.length = H ∧ ((A ++ H).set j x).take A.length ≠ A) ∨ (((A ++ H).set j x).take A.length = A ∧ ((A ++ H).set j x).drop A.length ≠ H) := by
 by_cases h : j < A.length
 ·rw [List.set_append_left _ _ h]
  refine .inl ⟨?_, ?_⟩
  ·rw [show A.length = (A.set j x).length by rw [List.length_set], List.drop_left]
  ·rw [show A.length = (A.set j x).length by rw [List.length_set], List.take_left]
   intro e
   have e1 : (A.set j x)[j]? = A[j]? := by rw [e]
   rw [List.getElem?_set_self h, List.getElem?_eq_getElem h] at e1
   apply hx
   rw [List.getD_eq_getElem?_getD, List.getElem?_append_left h, List.getElem?_eq_getElem h]
   exact Option.some.inj e1
 ·rw [List.set_append_right _ _ (by omega)]
  refine .inr ⟨List.take_left, ?_⟩
  rw [List.drop_left]
  intro e
  have hh : j - A.length < H.length := by omega
  have e1 : (H.set (j - A.length) x)[j - A.length]? = H[j - A.length]? := by rw [e]
  rw [List.getElem?_set_self hh, List.getElem?_eq_getElem hh] at e1
  apply hx
  rw [List.getD_eq_getElem?_getD, List.getElem?_append_right (by omega), List.getElem?_eq_getElem hh]
  exact Option.some.inj e1
set_option maxHeartbeats 4000000 in
theorem law_ok {z k c q a : Int} {y : Nat} {P R : List Nat} {Q : Option Addr} {xs : List Ch} {C : Nat} (w0 : Wf s) (hT : TabAt s) (hz : In64 z) (_ha : In64 a) (hy : y < 256) (hP : P.length = 32) (hR : R.length = 32) (h : RcOk s Q xs) (hs : ∀ x ∈ xs, SlOk x.kv x.k ∧ SlOk x.vv x.v) (hPb : ∀ x ∈ P, x < 256) (hRb : ∀ x ∈ R, x < 256) :
  Cl B (.call 3 [I z, .agg ⟨rcV k c q P R (.slice Q xs.length C)⟩, I a, nB y]) s fun v _ => v = .bool true := by
 refine Cl.enter Tryz.f3 fn3 rfl rfl rfl ?_
 refine run1 ?_
 refine mkO (cs := rcV k c q P R (.slice Q xs.length C)) fun s1 r1 n1 k1 => ?_
 have w1 : Wf s1 := k1.wf w0
 refine run1 ?_
 refine Wo.call rfl (Xc.call ok4 rfl) rfl ((books_ok w1 hz).mono ?_)
 rintro v s2 ⟨cb, b, r1', r2', r3', a', u, rfl, K⟩
 have w2 : Wf s2 := K.kn.wf w1
 have k02 : Kn s s2 := k1.call K.kn
 have hbn := (K.book.lt w2).1
 have hord := K.ord
 have hcb := K.bits.2
 have h01 := k1.le
 refine run1 ?_
 refine Wo.val rfl (Xv.pEq rfl rfl rfl) rfl (run1 ?_)
 refine Wo.call rfl (Xc.call ok5 rfl) rfl ((fixed_ok (hT.kpN w0 (k02.w))).mono ?_)
 rintro v s' ⟨rfl, e'⟩
 rw [e']; clear e' s'
 have l5 := (r1.kp w1 K.kn id).all (n := 68) (rc_len hP hR) (by decide)
 refine run1 ?_
 refine Wo.call rfl (Xc.call ok6 rfl) rfl ((made_ok w2 hP hR (h.kn w0 k02) hs).mono ?_)
 rintro v s3 ⟨Q', ys, C', rfl, hrc, hm, k3⟩
 have w3 := k3.wf w2
 refine run1 ?_
 refine mkO (cs := rc0) fun s4 p4 n4 k4 => ?_
 have w4 := k4.wf w3
 refine Wo.st rfl rfl rfl rfl rfl rfl (rc_len hP hR) rc_one p4 (by decide) fun s5 p5 n5 k5 => ?_
 rw [lov_all (by rw [rc_len hP hR]; rfl)] at p5
 have K35 : Kn s3 s5 := k4.app k5 (Nat.le_refl _)
 have w5 := K35.wf w3
 have l11 := p5.all (n := 68) (rc_len hP hR) (by decide)
 refine run1 ?_
 have hy32 : ys.length ≤ 32 := by rcases hm.1 with ⟨_, _, h⟩ | ⟨_, _, h⟩ <;> omega
 refine Wo.call rfl (Xc.call ok8 rfl) rfl ((copyR_ok w5 hP hR (hrc.kn w3 K35) (fun x hx => ⟨by have := (hm.2.2.2.2 x hx).1; omega, by have := (hm.2.2.2.2 x hx).2.1; omega⟩) (by omega)).mono ?_)
 rintro v s6 ⟨bl', bm, zs, rfl, cp, k6⟩
 have w6 := k6.wf w5
 have hzl : zs.length = ys.length := cp.len
 have hyb : ∀ x ∈ ys, (∀ y ∈ x.k, y < 256) ∧ ∀ y ∈ x.v, y < 256 := fun x hx => ⟨(hrc.ok x hx).bk, (hrc.ok x hx).bv⟩
 have hmz : mayR 2 7 4 zs := mayR_cv cp.same hm
 have hzb : ∀ x ∈ zs, (∀ y ∈ x.k, y < 256) ∧ ∀ y ∈ x.v, y < 256 := fun x hx => by
  obtain ⟨x', hx', e1, e2, _⟩ := cv_mem cp.same hx
  rw [e1, e2]; exact hyb x' hx'
 obtain ⟨A, hA⟩ : ∃ A, A = bdy 2 7 4 P R zs := ⟨_, rfl⟩
 have hAl := bdy_ok (k := 2) (c := 7) (q := 4) hP hR hmz hPb hRb hzb
 rw [← hA] at hAl
 have hA0 : A ≠ [] := fun e => by
  have := hd_pos (n := (fS (dgs 2) ++ fS (dgs 7) ++ fS (dgs 4) ++ fS P ++ fS R ++ fL (zs.flatMap chf)).length) (base := 192)
  have h2 : A.length = 0 := by rw [e]; rfl
  rw [hA, bdy, fL, List.length_append] at h2
  omega
 have hA1 : 0 < A.length := List.length_pos_iff.2 hA0
 obtain ⟨H, hH⟩ : ∃ H, H = cutOf (hmc S0 A) cb := ⟨_, rfl⟩
 have hHl : H.length = 32 := by rw [hH]; exact cutH
 have hHb : ∀ x ∈ H, x < 256 := by rw [hH]; exact ctN_byte sumN_byte
 obtain ⟨F, hF⟩ : ∃ F, F = fw (A ++ H) := ⟨_, rfl⟩
 have hFl : F.length = A.length + 39 := by rw [hF, fw, List.length_append, List.length_append, hHl]; show 7 + _ = _; omega
 have K26 : Kn s2 s6 := k3.call (K35.call k6)
 have k06 : Kn s s6 := k02.call K26
 have e26 := K26.le
 have k0' : Kp (fun c => s.nx ≤ c) s s6 := k06.w
 have B6 : Rw s6 b (bkT 256 cb S0 (Go.Proofs.YtcnhinnpieehoaaGreatDoor.bl 0 r1' 0 r2' 0 r3' 0)) b := K.book.kp w2 K26 id
 have M26 : Mp s6 r2' [] := Mp.kp K.map w2 K26 id
 refine run1 ?_
 have jw := jwrite_ok (s := s6) (b := b) (A := A) (H := H) (C := sure (ys.length + 1)) (D := fun c => c = b ∨ c = r2') (K := Coded1 cb b r1' r2' r3' s6.nx A H) w6 (hT.kpN w0 k0') hP hR (cp.rc hyb (by omega)) hmz hPb hRb hzb hA hHl (fun c h => by omega)
  (code1 w0 hT k0' B6 M26 ⟨by omega, by omega⟩ hcb hAl.2 (by omega) hH)
 rw [hzl, ← hF] at jw
 refine Wo.call rfl (Xc.call ok7 rfl) rfl (jw.mono ?_)
 rintro v s7 ⟨bo, rfl, lo, po, cd, k7⟩
 have w7 := k7.wf w6
 refine run1 ?_
 refine mkO (cs := (List.replicate 32 0).map nB) fun s8 p8 n8 k8 => ?_
 have w8 := k8.wf w7
 refine run1 ?_
 refine Wo.st rfl rfl rfl rfl rfl rfl (by rw [List.length_map, hHl]) one_nB p8 (by decide) fun s9 p9 n9 k9 => ?_
 have w9 := k9.wf w8
 have K79 : Kn s7 s9 := k8.app k9 (Nat.le_refl _)
 have h00 : ¬ (0 : Nat) ≠ 0 := fun h => h rfl
 have h40 : ¬ F.length < 40 := by omega
 refine run1 ?_
 refine mkO (cs := []) fun sa pa na ka => ?_
 have wa := ka.wf w9
 refine Wo.val rfl (Xv.slLs rfl rfl rfl rfl (by omega) (Nat.le_refl _)) rfl ?_
 rw [if_neg (by omega)]
 obtain ⟨L, hL⟩ : ∃ L, L = A ++ H := ⟨_, rfl⟩
 have hLl : L.length = A.length + 32 := by rw [hL, List.length_append, hHl]
 have hFd : F.drop 7 = L := by rw [hF, hL]; rfl
 have hF7 : F.length - 7 = L.length := by omega
 have hLb : ∀ x ∈ L, x < 256 := fun x hx => by
  rw [hL] at hx
  rcases List.mem_append.1 hx with hx | hx
  ·exact hAl.2 x hx
  ·exact hHb x hx
 have K7a : Kn s7 sa := K79.call ka
 have hAt : At sa (some ⟨bo, 0 + 7 * 1, none⟩) (L.map nB) := by
  have := ((po.kp w7 K7a id).sl (o := 7) (n := L.length) (by rw [List.length_map]; omega)).at
  rw [← List.map_drop, hFd, List.take_of_length_le (by rw [List.length_map]; exact Nat.le_refl _)] at this
  exact this
 rw [hF7]
 refine Wo.app rfl rfl rfl rfl rfl rfl rfl rfl rfl wa (pa.gw rfl) rfl (cells_at (k := L.length) (size := 1) hAt (by rw [List.length_map, Nat.mul_one]) (by decide)) (by rw [List.length_map, Nat.mul_one]) one_nB rfl (by omega) (by omega) ?_
 intro qp cp' γp sb gp kb hγ
 rw [List.nil_append] at gp
 have wb := kb.wf wa
 obtain ⟨n, hn⟩ : ∃ n, n = 0 + L.length := ⟨_, rfl⟩
 rw [← hn] at gp ⊢
 have hnL : n = L.length := by omega
 have h67 := k7.le
 have h7a := K7a.le
 have hγp : s6.nx ≤ γp := by rcases hγ with h | ⟨h, _⟩ <;> omega
 obtain ⟨bq, gq, rfl, hpq, hgq, hcap⟩ : ∃ b g, qp = some ⟨b, 0, none⟩ ∧ sb.hp.get b = some (.row (L.map nB) g) ∧ grpOf g b = γp ∧ (cp' = least n 1 ∨ cp' = sure n) := by
  rcases gp.at' with ⟨_, h, _⟩ | h
  ·omega
  ·exact h
 have pq : Rw sb bq (L.map nB) γp := ⟨gq, hpq, hgq⟩
 have hRm : Rm cp' n 1 := by
  rcases hcap with rfl | rfl
  ·exact ⟨by omega, by rw [(cap_least (by omega)).1]; exact Nat.le_refl _, .inr (cap_least (by omega)).2.2⟩
  ·exact ⟨by omega, by rw [cap_sure.1]; exact Nat.le_refl _, .inl cap_sure.2⟩
 obtain ⟨za, hza⟩ : ∃ za, a.tmod (Int.ofNat n) = za := ⟨_, rfl⟩
 have hzr : -(n : Int) < za ∧ za < n := by
  have h1 := Int.tmod_lt_of_pos a (show (0 : Int) < n by omega)
  have h2 := Int.lt_tmod_of_pos a (show (0 : Int) < n by omega)
  have : (Int.ofNat n : Int) = n := rfl
  rw [this] at hza
  omega
 refine run1 ?_
 refine Wo.val rfl (Xv.remW rfl rfl (by omega) hza) rfl (run1 ?_)
 refine W.meet (α := Nat) (fun j => [(3, nB y), (9, .pointer (some ⟨b, 0, none⟩)), (15, .slice (some ⟨bq, 0, none⟩) n cp'), (16, nI j)]) (fun _ => sb) (fun j => j < n) ?_ ?_
 ·by_cases hneg : za < 0
  ·refine run1 ?_
   refine Wo.val rfl (Xv.negW (z := Int.ofNat (-za).toNat) rfl ?_) rfl (run1 ?_)
   ·show (if (true && decide (((0 - za) % 18446744073709551616 : Int) ≥ 9223372036854775808)) = true then (0 - za) % 18446744073709551616 - 18446744073709551616 else (0 - za) % 18446744073709551616) = _
    rw [if_neg (by simp; omega)]
    show _ = ((-za).toNat : Int)
    omega
   ·exact meet.n (-za).toNat (by omega) (.cons rfl (.cons rfl (.cons rfl (.cons rfl .nil)))) rfl
  ·obtain ⟨j, rfl⟩ : ∃ j : Nat, za = Int.ofNat j := ⟨za.toNat, by show za = (za.toNat : Int); omega⟩
   refine run1 ?_
   exact meet.n j (by have : (Int.ofNat j : Int) = j := rfl; omega) (.cons rfl (.cons rfl (.cons rfl (.cons rfl .nil)))) rfl
 intro j hj
 refine run1 ?_
 refine W.meet (α := Nat) (fun y => [(3, nB y), (9, .pointer (some ⟨b, 0, none⟩)), (15, .slice (some ⟨bq, 0, none⟩) n cp'), (16, nI j)]) (fun _ => sb) (fun y => 0 < y ∧ y < 256) ?_ ?_
 ·by_cases hy0 : y = 0
  ·refine run1 ?_
   exact meet.n 1 (by decide) (.cons rfl (.cons rfl (.cons rfl (.cons rfl .nil)))) rfl
  ·refine run1 ?_
   exact meet.n y ⟨by omega, hy⟩ (.cons rfl (.cons rfl (.cons rfl (.cons rfl .nil)))) rfl
 rintro y ⟨hy0, hy⟩
 have hBq : Bs sb (some ⟨bq, 0, none⟩) L := pq.ats
 refine run1 ?_
 obtain ⟨x, hx⟩ : ∃ x, x = Nat.mod (Nat.add (L.getD j 0) y) 256 := ⟨_, rfl⟩
 have hx256 : x < 256 := by rw [hx]; exact Nat.mod_lt _ (by decide)
 have hxne : x ≠ L.getD j 0 := fun e => by
  have h1 := mem_getD hLb j
  have h2 : (L.getD j 0 + y) % 256 = L.getD j 0 := hx.symm.trans e
  omega
 rw [← hx]
 refine Wo.st rfl rfl rfl rfl rfl rfl rfl (one1 rfl) pq (by rw [List.length_map]; show 0 + j * 1 + 1 ≤ _; omega) fun sc pc nc kc => ?_
 have pc : Rw sc bq ((L.set j x).map nB) γp := by
  rw [show 0 + j * 1 = j by omega, lay_set (by omega)] at pc
  exact pc
 have wc := kc.wf wb
 obtain ⟨L', hL'⟩ : ∃ L', L' = L.set j x := ⟨_, rfl⟩
 rw [← hL'] at pc
 have hL'l : L'.length = A.length + 32 := by rw [hL', List.length_set, hLl]
 have hL'b : ∀ x ∈ L', x < 256 := by rw [hL']; exact set_byte hLb hx256
 have hnl : n = L'.length := by omega
 have tn := turned (A := A) (H := H) (j := j) (x := x) (by omega) (by rw [← hL]; exact hxne)
 rw [← hL, ← hL'] at tn
 have K6c : Kp (fun c => c = b ∨ c = r2' ∨ s6.nx ≤ c) s6 sc := (((k7.mono fun c h => by omega).trans (K7a.w)).trans (kb.mono fun c h => by omega)).trans (kc.mono fun c h => by omega)
 have k0c : Kp (fun c => s.nx ≤ c) s sc := k0'.trans (K6c.mono fun c h => by omega)
 have hgt := K6c.le
 obtain ⟨D, hD⟩ : ∃ D, D = L'.take (L'.length - 32) := ⟨_, rfl⟩
 obtain ⟨E, hE⟩ : ∃ E, E = L'.drop (L'.length - 32) := ⟨_, rfl⟩
 rw [show A.length = L'.length - 32 by omega, ← hD, ← hE] at tn
 have hDl : D.length = A.length := by rw [hD, List.length_take]; omega
 have hEl : E.length = 32 := by rw [hE, List.length_drop]; omega
 have hDb : ∀ x ∈ D, x < 256 := fun x hx => hL'b x (List.mem_of_mem_take (hD ▸ hx))
 have hEb : ∀ x ∈ E, x < 256 := fun x hx => hL'b x (List.mem_of_mem_drop (hE ▸ hx))
 have h79 := K79.le
 have h9a := ka.le
 have K7c : Kp (fun c => s7.nx ≤ c) s7 sc := ((K7a.w).trans (kb.mono fun c h => by omega)).trans (kc.mono fun c h => by rcases hγ with h' | ⟨h', _⟩ <;> omega)
 have cdc : Coded1 cb b r1' r2' r3' s6.nx A H sc := cd.kp w7 K7c (by omega) (by omega) (fun c _ h1 h2 => by omega) hA0
 have M3c : Mp sc r3' [] := Mp.kp (Mp.kp K.map3 w2 K26 id) w6 K6c (by omega)
 have M1c : Mp sc r1' [] := Mp.kp (Mp.kp K.map1 w2 K26 id) w6 K6c (by omega)
 rw [hnl] at hRm ⊢
 refine run1 ?_
 refine Wo.call rfl (Xc.call ok9 rfl) rfl ((read_ok (cb := cb) (r1 := r1') (r2 := r2') (r3 := r3') (H := H) (D := D) (C := E) wc (hT.kpN w0 k0c) pc.ats hL'b hRm (by omega) (by omega) hD hE ⟨by omega, by omega, by omega⟩ fun t c' kt hcap => ?_).mono ?_)
 ·have wt := kt.wf wc
  have := accept_ok (s0 := s) (s := t) (r1 := r1') (N := s6.nx) (A := A) (H := H) (D := D) (C := E) (c := c') (δ := γp) w0 hT (k0c.trans (kt.w)) (cdc.kp wc kt id id (fun _ _ _ h => h) hA0) (Mp.kp M3c wc kt id) ⟨by omega, by omega, by omega, by omega⟩ (by have := kt.le; omega) hcb hAl.2 hA0 (q := some ⟨bq, 0, none⟩) ?_ ⟨by omega, by omega⟩ hcap hDb ?_ (by omega) hEl hEb ?_
  ·exact this
  ·have := (pc.kp wc kt id).sl (o := 0) (n := D.length) (by rw [List.length_map]; omega)
   rw [List.drop_zero, ← List.map_take, show L'.take D.length = D by rw [hD, List.length_take, Nat.min_eq_left (by omega)]] at this
   exact this
  ·intro e; rw [e] at hDl; simp at hDl; omega
  ·intro e
   rcases tn with ⟨h1, h2⟩ | ⟨h1, h2⟩
   ·exact ⟨h1, h2⟩
   ·exact absurd (by rw [← e, h1, hH]) h2
 rintro v sd ⟨kd, hv⟩
 have wd := kd.wf wc
 rcases hv with ⟨hh, e, hhl, rfl, he⟩ | ⟨cs, hh, hhl, rfl, hcl, hone, hacc⟩
 ·refine run1 ?_
  refine mkO (s := mkRow sd rc0) (cs := (List.replicate 32 0).map nB) fun se pe ne ke => ?_
  have pe17 : Rw se sd.nx rc0 sd.nx := mkRow_rw.kp (mkRow_wf wd) ke id
  have pe18 : Rw se (sd.nx + 1) ((List.replicate 32 0).map nB) (sd.nx + 1) := pe
  have Kde : Kn sd se := mkRow_kn.call ke
  have we := Kde.wf wd
  refine Wo.st (vs := rc0) rfl rfl rfl rfl rfl rfl rfl rc_one pe17 (by decide) fun sf pf nf kf => ?_
  rw [lov_all rfl] at pf
  have wf := kf.wf we
  refine run1 ?_
  refine Wo.st rfl rfl rfl rfl rfl rfl (by rw [List.length_map, hhl]) one_nB (pe18.kp we kf (by omega)) (by decide) fun sg pg ng kg => ?_
  have wg := kg.wf wf
  have pf17 := pf.kp wf kg (show ¬ sd.nx = sd.nx + 1 by omega)
  have l17 := pf17.all (n := 68) rfl (by decide)
  have rc : ∀ {t : St}, RcOk t none [] := ⟨.inl ⟨rfl, .inl rfl⟩, fun x hx => (List.not_mem_nil hx).elim, by decide⟩
  rcases he with rfl | rfl
  ·have e0 : (190 : Nat) ≠ 0 := by decide
   have e1 : (190 : Nat) = 190 := rfl
   refine run1 ?_
   refine Wo.call rfl (Xc.call ok10 rfl) rfl ((rsame_ok (P := List.replicate 32 0) (R := List.replicate 32 0) (xs := []) (ys := []) wg rfl rfl rc rc rfl).mono ?_)
   rintro v sh ⟨rfl, kh⟩
   refine run1 ?_
   exact Lv.ret rfl rfl
  ·have e0 : (191 : Nat) ≠ 0 := by decide
   have e1 : ¬ (191 : Nat) = 190 := by decide
   have e2 : (191 : Nat) = 191 := rfl
   refine run1 ?_
   refine Wo.call rfl (Xc.call ok10 rfl) rfl ((rsame_ok (P := List.replicate 32 0) (R := List.replicate 32 0) (xs := []) (ys := []) wg rfl rfl rc rc rfl).mono ?_)
   rintro v sh ⟨rfl, kh⟩
   refine run1 ?_
   exact Lv.ret rfl rfl
 ·refine run1 ?_
  refine mkO (s := mkRow sd rc0) (cs := (List.replicate 32 0).map nB) fun se pe ne ke => ?_
  have pe17 : Rw se sd.nx rc0 sd.nx := mkRow_rw.kp (mkRow_wf wd) ke id
  have pe18 : Rw se (sd.nx + 1) ((List.replicate 32 0).map nB) (sd.nx + 1) := pe
  have Kde : Kn sd se := mkRow_kn.call ke
  have we := Kde.wf wd
  have hed := Kde.le
  refine Wo.st rfl rfl rfl rfl rfl rfl hcl hone pe17 (by decide) fun sf pf nf kf => ?_
  have wf := kf.wf we
  refine run1 ?_
  refine Wo.st rfl rfl rfl rfl rfl rfl (by rw [List.length_map, hhl]) one_nB (pe18.kp we kf (by omega)) (by decide) fun sg pg ng kg => ?_
  have wg := kg.wf wf
  have Kdg : Kn sd sg := (Kde.app kf (Nat.le_refl _)).app kg (by omega)
  have hcd := kd.le
  have h00 : ¬ (0 : Nat) ≠ 0 := fun h => h rfl
  have acc : Acc1 cb b r1' r2' r3' sc.nx H D sg := by
   obtain ⟨x1, x2, x3, x4, x5, x6, x7, y1, y2, y3, y4, y5, y6, y7⟩ := hacc
   exact ⟨x1, x2, x3, x4, x5, x6, x7, y1.kp wd Kdg id, Mp.kp y2 wd Kdg id, Mp.kp y3 wd Kdg id, y4.kp wd Kdg id, y5, y6.kp wd Kdg id, y7⟩
  refine run1 ?_
  have hD0 : D ≠ [] := fun e => by rw [e] at hDl; simp at hDl; omega
  refine Wo.call rfl (Xc.call ok11 rfl) rfl ((forg_ok wg acc ⟨by omega, by omega⟩ hHl hD0 (by omega)).mono ?_)
  rintro v sh ⟨⟨qf, cf, rfl⟩, bh, kh⟩
  have wh := kh.wf wg
  have e11 : 1 = 1 := rfl
  refine run1 ?_
  obtain ⟨x1, x2, x3, x4, x5, x6, x7, y1, y2, y3, y4, y5, y6, y7⟩ := acc
  have M1h : Mp sh r1' [] := Mp.kp (Mp.kp (Mp.kp M1c wc kd (by omega)) wd Kdg id) wg kh (by omega)
  refine Wo.call rfl (Xc.call ok12 rfl) rfl ((sound_ok wh bh M1h (Mp.kp y2 wg kh (by omega)) ⟨by omega, by omega⟩).mono ?_)
  rintro v si rfl
  refine run1 ?_
  exact Lv.ret rfl rfl
end Go.Proofs.YtcnhinnpieehoaaGreatDoor
